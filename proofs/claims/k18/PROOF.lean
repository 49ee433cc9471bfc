import PyProof.Rows.All
import Wide.All
import OpenK.AllK
import Wide.FinOn
import PyProof.EqAt
import PyProof.EqKinds
import PyProof.NeKinds
import PyProof.TupleCall
import PyProof.EnumFor
import PyProof.EnumMake
import PyProof.CompFree
import PyProof.Rows.SumAny
import PyProof.Rows.Range3
import PyProof.CompUse
import KE.LcSums
import PyProof.ListRange
import PyProof.Rows.MinMaxN
import KE.KIntText
import PyProof.StrCalls2
import PyProof.StrBlockH
import PyProof.Rows.ZipForRows
import PyProof.Rows.SortRev
import KE.KRevSl
import KE.KMinKey
import PyProof.Rows.SetFrom
import PyProof.Rows.SeqMore2
import Lean
import PyProof.WalkInts
import KE.KLam
import KE.KNest
import PyProof.Rows.SortRuns
import KE.KSortKey
import PyProof.Conv_int_bool
import KE.KListMore
import PyProof.DictWalks
import KE.KSortTup
import KE.KDictList
import KE.KRevIter
import PyProof.SetKind
import PyProof.SetScanFacts
import PySem.Challenge.RW_nearenough_k18_what_are_roads
set_option Elab.async false
set_option linter.all false
set_option maxRecDepth 100000
namespace L2
open PySem PySem.Spec PyProof.Rows
abbrev Key:=Sum Int Str
def keyIs:Key→Value→Bool
  | .inl k,v=>Value.isInt k v
  | .inr x,v=>Value.isStrOf x v
def keyH (w:World):Key→Int
  | .inl k=>hashInt k
  | .inr x=>hashStr w x
theorem keyIs_shape:∀ {k:Key} {v:Value},keyIs k v=true→(∃ i t,k=Sum.inl i∧v=Value.int i t) ∨ (∃ x t,k=Sum.inr x∧v=Value.str x t)
  | .inl i,v,h=>by
    obtain ⟨t,e⟩:=Value.isInt_shape (k:=i) (v:=v) h
    exact .inl ⟨i,t,rfl,e⟩
  | .inr x,v,h=>by
    obtain ⟨t,e⟩:=Value.isStrOf_shape (x:=x) (v:=v) h
    exact .inr ⟨x,t,rfl,e⟩
theorem key_ll (a b:Int):decide ((Sum.inl a:Key)=Sum.inl b)=(a == b):=by
  by_cases e:a=b
  · subst e; simp
  · have h : ¬ (Sum.inl a:Key)=Sum.inl b:=fun q=>e (Sum.inl.inj q)
    rw [decide_eq_false h]
    exact (beq_eq_false_iff_ne.mpr e).symm
theorem key_rr (a b:Str):decide ((Sum.inr a:Key)=Sum.inr b)=decide (a=b):=by
  by_cases e:a=b
  · subst e; simp
  · have h : ¬ (Sum.inr a:Key)=Sum.inr b:=fun q=>e (Sum.inr.inj q)
    rw [decide_eq_false h,decide_eq_false e]
theorem key_lr (a:Int) (b:Str):decide ((Sum.inl a:Key)=Sum.inr b)=false:=decide_eq_false (fun q=>nomatch q)
theorem key_rl (a:Str) (b:Int):decide ((Sum.inr a:Key)=Sum.inl b)=false:=decide_eq_false (fun q=>nomatch q)
def mixKind (prog:Program) (w:World):PySem.KeyKind prog w Key where
  is:=keyIs
  hash:=keyH w
  inj:=fun v a b ha hb=>by
    rcases keyIs_shape ha with ⟨i,t,rfl,rfl⟩ | ⟨x,t,rfl,rfl⟩
    · rcases keyIs_shape hb with ⟨j,u,rfl,e⟩ | ⟨y,u,rfl,e⟩
      · injection e with e1 _; rw [e1]
      · exact nomatch e
    · rcases keyIs_shape hb with ⟨j,u,rfl,e⟩ | ⟨y,u,rfl,e⟩
      · exact nomatch e
      · injection e with e1 _; rw [e1]
  byValue:=fun k v h=>by
    rcases keyIs_shape h with ⟨i,t,rfl,rfl⟩ | ⟨x,t,rfl,rfl⟩ <;> rfl
  pyHash:=fun hv h=>by
    rcases keyIs_shape hv with ⟨i,t,rfl,rfl⟩ | ⟨x,t,rfl,rfl⟩
    · exact wpAny_pyHash_int h
    · exact wpAny_pyHash_str h
  eqBool:=fun hu hv h=>by
    rcases keyIs_shape hu with ⟨i,t,rfl,rfl⟩ | ⟨x,t,rfl,rfl⟩
    · rcases keyIs_shape hv with ⟨j,u,rfl,rfl⟩ | ⟨y,u,rfl,rfl⟩
      · rw [key_ll] at h; exact wpAny_eqBool_int h
      · rw [key_lr] at h; exact SeqAt.EqAt.int_str i t y u _ _ _ _ h
    · rcases keyIs_shape hv with ⟨j,u,rfl,rfl⟩ | ⟨y,u,rfl,rfl⟩
      · rw [key_rl] at h; exact SeqAt.EqAt.str_int x t j u _ _ _ _ h
      · rw [key_rr] at h; exact wpAny_eqBool_str h
  «strs»:=fun k x t v h=>by
    rcases keyIs_shape h with ⟨i,u,rfl,e⟩ | ⟨y,u,rfl,e⟩
    · exact nomatch e
    · injection e with e1 _
      subst e1
      cases v <;> rfl
inductive V where
  | non | bl (b:Bool) | int (i:Int) | str (x:Str) | byt (b:Array UInt8) | flt (b:UInt64) | ref (a:Addr) | ty (n:String)
  deriving DecidableEq
def RelV:V→Value→Prop
  | .non,u=>u=Value.none
  | .bl b,u=>u=Value.bool b
  | .int i,u => ∃ t,u=Value.int i t
  | .str x,u => ∃ t,u=Value.str x t
  | .byt b,u => ∃ t,u=Value.bytes b t
  | .flt b,u => ∃ t,u=Value.float b t
  | .ref a,u=>u=Value.ref a
  | .ty n,u=>u=Value.type n
abbrev Vals:List V→List Value→Prop:=Paired RelV
theorem Vals.length {xs:List V} {us:List Value} (r:Vals xs us):xs.length=us.length:=Paired.length r
theorem Vals.get:∀ {xs:List V} {us:List Value} {i:Nat} {x:V},Vals xs us→xs[i]?=some x→∃ u,us[i]?=some u∧RelV x u
  | _,_,_,_, .nil,e=>by simp at e
  | _,_,0,_, .cons r _,e=>by simp at e; subst e; exact ⟨_,rfl,r⟩
  | _,_,i + 1,x, .cons _ t,e=>by
    obtain ⟨u,h1,h2⟩:=Vals.get (i:=i) (x:=x) t (by simpa using e)
    exact ⟨u,by simpa using h1,h2⟩
theorem Vals.set {x:V} {u:Value} (r:RelV x u):∀ {xs:List V} {us:List Value} (i:Nat),Vals xs us→Vals (xs.set i x) (us.set i u)
  | _,_,_, .nil => .nil
  | _,_,0, .cons _ t => .cons r t
  | _,_,i + 1, .cons q t => .cons q (Vals.set r i t)
theorem Vals.append:∀ {xs ys:List V} {us ws:List Value},Vals xs us→Vals ys ws→Vals (xs ++ ys) (us ++ ws)
  | _,_,_,_, .nil,s=>s
  | _,_,_,_, .cons r t,s => .cons r (Vals.append t s)
def RelO:Option V→Option Value→Prop
  | some v,some u=>RelV v u
  | none,none=>True
  | _,_=>False
def KV {κ:Type}:List (κ × V)→List (κ × Value)→Prop:=Paired fun (p:κ × V) (q:κ × Value)=>p.1=q.1∧RelV p.2 q.2
def kV:Key→V
  | .inl i => .int i
  | .inr x => .str x
inductive HO where
  /-- a list -/
  | lst (xs:List V)
  /-- a tuple (never changes) -/
  | tup (xs:List V)
  /-- a dict whose keys are ints and texts; one whose keys are tuples of ints and texts (the empty one is both) -/
  | dK (kvs:List (Key × V)) | dT (kvs:List (List Key × V))
  /-- a set of ints: its members,its size -/
  | set (S:Int→Bool) (n:Nat)
  /-- an instance of the class at C,its dict at dx,its attributes -/
  | ins (C dx:Addr) (fs:List (Str × V))
  /-- the dict of the instance at x -/
  | own (x:Addr)
  /-- the dict of an exception -/
  | xd (fs:List (Str × V))
  /-- a bound method,f of x -/
  | met (f x:Addr)
  /-- a range object lo,lo + 1, .. below hi -/
  | rng (lo hi:Int)
  /-- a thing that is known to the object (the script; a dict while a loop walks it): read,never written while it is so -/
  | frz (o:Obj) (u:HO)
  /-- a code object's table -/
  | tbl (q:Str)
  /-- any other thing,by what is true of its one object (a def of one's own: SetO a S n:=HO.ext fun h => ..) -/
  | ext (φ:Heap→Prop)
abbrev Hp:=Addr→Option HO
def upd (H:Hp) (a:Addr) (o:HO):Hp:=fun b=>if b=a then some o else H b
theorem upd_same {H:Hp} {a:Addr} {o:HO}:upd H a o a=some o:=by unfold upd; rw [if_pos rfl]
theorem upd_ne {H:Hp} {a b:Addr} {o:HO} (h:b ≠ a):upd H a o b=H b:=by unfold upd; rw [if_neg h]
theorem ne_of_none {H:Hp} {a b:Addr} {o:HO} (h:H a=some o) (h':H b=none):a ≠ b:=by
  intro e; subst e; rw [h] at h'; cases h'
section
variable (P:Program) (w:World)
def ObjOk (H:Hp) (h:Heap) (a:Addr):HO→Prop
  | .lst xs=>xs.length ≤ sizeLine∧∃ (its:List Value) (n:Nat),Vals xs its∧h.get? a=some { cls := .type "list",data := .seq its.toArray n }
  | .tup xs=>xs.length ≤ sizeLine∧∃ its:List Value,Vals xs its∧IsTup h a its.toArray
  | .dK kvs=>kvs.length ≤ sizeLine∧(a == sysModules)=false∧∃ vs,KV kvs vs∧h.DictOf (mixKind P w) a vs
  | .dT kvs=>kvs.length ≤ sizeLine∧(a == sysModules)=false∧∃ xs:List (List Key × Addr × Value),
      Paired (fun (p:List Key × V) (q:List Key × Addr × Value)=>p.1=q.1∧H q.2.1=some (.tup (p.1.map kV))∧RelV p.2 q.2.2) kvs xs ∧
      ∃ o es ep,h.get? a=some o∧o.ExactDict∧o.data = .dict es ep∧es.toList=xs.map (entryOfKey (tupleKind (mixKind P w)))∧(xs.map (·.1)).Nodup
  | .set S n=>h.SetOf (intKind P w) a S n
  | .ins C dx fs=>H dx=some (.own a)∧fs.length ≤ 1000∧dx ≠ a∧h.get? a=some (PySem.W.instObj C dx) ∧
      ∃ mA,h.Ns1 dx mA∧(∀ f,RelO (fs.lookup f) (mA f))∧PySem.Within mA (fs.map (·.1))
  | .own _ => ∃ o,h.get? a=some o
  | .xd fs => ∃ mA,h.Ns1 a mA∧∀ f,RelO (fs.lookup f) (mA f)
  | .rng lo hi => ∃ t u v,h.get? a=some { cls := .type "range",data := .fields #[.int lo t, .int hi u, .int 1 v] }
  | .frz o u=>h.get? a=some o∧ObjOk H h a u
  | .tbl q => ∃ ps:Array Value,h.get? a=some { cls := .none,data := .fields ps }∧TriplesOk ps.toList∧∀ pos cv,codeAmong pos ps.toList=some cv→∃ (c:Addr) (oc:Obj) (vs:Array Value) (tk:Tok),cv = .ref c∧H c=some (.frz oc (.own 0))∧oc.data = .fields vs∧vs[1]?=some (.str q tk)
  | .met f x=>h.get? a=some (PySem.W.methodObj (.ref f) (.ref x))
  | .ext φ=>φ h∧(∃ o,h.get? a=some o)∧∀ h1 h2:Heap,φ h1→(∀ o,h1.get? a=some o→h2.get? a=some o)→φ h2
def HOk (H:Hp) (h:Heap):Prop := ∀ a o,H a=some o→ObjOk P w H h a o
end
section
variable {P:Program} {w:World} {H H':Hp} {h h':Heap} {a:Addr} {o:HO}
theorem ObjOk.lt (x:ObjOk P w H h a o):a < h.objs.size:=by
  cases o with
  | lst xs=>obtain ⟨_,_,_,_,e⟩:=x; exact Heap.lt_size e
  | tup xs=>obtain ⟨_,_,_,p⟩:=x; exact p.lt
  | dK kvs=>obtain ⟨_,_,_,_,o,_,_,e,_⟩:=x; exact Heap.lt_size e
  | dT kvs=>obtain ⟨_,_,_,_,o,_,_,e,_⟩:=x; exact Heap.lt_size e
  | set S n=>obtain ⟨o,_,_,_,e,_⟩:=x; exact Heap.lt_size e
  | ins C dx fs=>obtain ⟨_,_,_,e,_⟩:=x; exact Heap.lt_size e
  | own y=>obtain ⟨_,e⟩:=x; exact Heap.lt_size e
  | xd fs=>obtain ⟨_,⟨_,_,_,e,_⟩,_⟩:=x; exact Heap.lt_size e
  | rng lo hi=>obtain ⟨_,_,_,e⟩:=x; exact Heap.lt_size e
  | frz ob u=>obtain ⟨e,_⟩:=x; exact Heap.lt_size e
  | tbl q=>obtain ⟨_,e,_⟩:=x; exact Heap.lt_size e
  | met f y=>exact Heap.lt_size (show h.get? a=some _ from x)
  | ext φ=>obtain ⟨_,⟨_,e⟩,_⟩:=x; exact Heap.lt_size e
theorem Paired.mapP {α β:Type} {F G:α→β→Prop}:∀ {l₁:List α} {l₂:List β},Paired F l₁ l₂→(∀ a b,F a b→G a b)→Paired G l₁ l₂
  | _,_, .nil,_ => .nil
  | _,_, .cons r t,f => .cons (f _ _ r) (Paired.mapP t f)
theorem ObjOk.stay (x:ObjOk P w H h a o) (k:∀ b u,(b=a ∨ H b=some (.own a))→h.get? b=some u→h'.get? b=some u)
    (ho:∀ b,H b=some (.own a)→H' b=some (.own a)) (ht:∀ b xs,H b=some (.tup xs)→H' b=some (.tup xs)) (hz:∀ b o u,H b=some (.frz o u)→H' b=some (.frz o u)):ObjOk P w H' h' a o:=by
  induction o with
  | lst xs=>obtain ⟨z,its,n,r,e⟩:=x; exact ⟨z,its,n,r,k _ _ (.inl rfl) e⟩
  | tup xs=>obtain ⟨z,its,r,ob,e,c⟩:=x; exact ⟨z,its,r,ob,k _ _ (.inl rfl) e,c⟩
  | dK kvs=>obtain ⟨z,y,vs,r,ob,es,ep,e,c⟩:=x; exact ⟨z,y,vs,r,ob,es,ep,k _ _ (.inl rfl) e,c⟩
  | dT kvs =>
    obtain ⟨z,y,xs,r,ob,es,ep,e,c⟩:=x
    exact ⟨z,y,xs,Paired.mapP r fun p q z=>⟨z.1,ht _ _ z.2.1,z.2.2⟩,ob,es,ep,k _ _ (.inl rfl) e,c⟩
  | set S n=>obtain ⟨ob,es,ep,t,e,c⟩:=x; exact ⟨ob,es,ep,t,k _ _ (.inl rfl) e,c⟩
  | ins C dx fs =>
    obtain ⟨d,z,ne,e,mA,⟨od,es,ep,e2,c⟩,r⟩:=x
    exact ⟨ho _ d,z,ne,k _ _ (.inl rfl) e,mA,⟨od,es,ep,k _ _ (.inr d) e2,c⟩,r⟩
  | own y=>obtain ⟨ob,e⟩:=x; exact ⟨ob,k _ _ (.inl rfl) e⟩
  | xd fs=>obtain ⟨mA,⟨od,es,ep,e,c⟩,r⟩:=x; exact ⟨mA,⟨od,es,ep,k _ _ (.inl rfl) e,c⟩,r⟩
  | rng lo hi=>obtain ⟨t,u,v,e⟩:=x; exact ⟨t,u,v,k _ _ (.inl rfl) e⟩
  | frz ob u ih=>obtain ⟨e,q⟩:=x; exact ⟨k _ _ (.inl rfl) e,ih q⟩
  | tbl q=>obtain ⟨ps,e,t,r⟩:=x; exact ⟨ps,k _ _ (.inl rfl) e,t,fun pos cv z=>let ⟨c,oc,vs,tk,a1,a2,a3⟩:=r pos cv z; ⟨c,oc,vs,tk,a1,hz _ _ _ a2,a3⟩⟩
  | met f y =>
    have e:h.get? a=some (PySem.W.methodObj (.ref f) (.ref y)):=x
    show h'.get? a=some (PySem.W.methodObj (.ref f) (.ref y))
    exact k a _ (.inl rfl) e
  | ext φ=>obtain ⟨p,⟨o,e⟩,st⟩:=x; exact ⟨st _ _ p fun o q=>k _ _ (.inl rfl) q,⟨o,k _ _ (.inl rfl) e⟩,st⟩
theorem HOk.lt (x:HOk P w H h) (e:H a=some o):a < h.objs.size:=(x a o e).lt
theorem HOk.fresh (x:HOk P w H h) (e:h.objs.size ≤ a):H a=none:=by
  cases q:H a with
  | none=>rfl
  | some u=>exact absurd (Nat.lt_of_lt_of_le (x.lt q) e) (Nat.lt_irrefl _)
theorem HOk.kept (x:HOk P w H h) (k:∀ b u,h.get? b=some u→h'.get? b=some u):HOk P w H h':=fun a o e =>
  (x a o e).stay (fun b u _ q=>k b u q) (fun _ q=>q) (fun _ _ q=>q) fun _ _ _ q=>q
theorem HOk.laid (x:HOk P w H h) (k:∀ b u,h.get? b=some u→h'.get? b=some u) (hp:h.objs.size ≤ a) (new:ObjOk P w (upd H a o) h' a o):HOk P w (upd H a o) h':=fun b u e=>by
  have hn:=x.fresh hp
  by_cases hb:b=a
  · subst hb; rw [upd_same] at e; cases e; exact new
  · rw [upd_ne hb] at e
    exact (x b u e).stay (fun c v _ q=>k c v q) (fun c q=>by rw [upd_ne (ne_of_none q hn)]; exact q) (fun c xs q=>by rw [upd_ne (ne_of_none q hn)]; exact q) fun c o u q=>by rw [upd_ne (ne_of_none q hn)]; exact q
end
def Rd (H:Hp) (a:Addr) (u:HO):Prop:=H a=some u ∨ ∃ o,H a=some (.frz o u)
theorem Rd.ok {P:Program} {w:World} {H:Hp} {h:Heap} {a:Addr} {u:HO} (r:Rd H a u) (x:HOk P w H h):ObjOk P w H h a u:=by
  rcases r with r | ⟨o,r⟩
  · exact x a u r
  · obtain ⟨_,q⟩:=x a _ r
    exact q
def Mut:Option HO→Prop
  | some (.lst _)=>True
  | some (.dK _)=>True
  | some (.dT _)=>True
  | some (.set _ _)=>True
  | some (.ins _ _ _)=>True
  | some (.ext _)=>True
  | _=>False
section
variable {P:Program} {w:World} {H:Hp} {h h':Heap} {x e:Addr} {o':HO}
theorem HOk.write (ok:HOk P w H h) (mu:Mut (H x)) (he:e=x ∨ H e=some (.own x)) (k:∀ b u,b ≠ e→h.get? b=some u→h'.get? b=some u) (heo:∃ u,h'.get? e=some u)
    (new:ObjOk P w (upd H x o') h' x o'):HOk P w (upd H x o') h':=fun b u q=>by
  have nown:∀ c y,H c=some (.own y)→c ≠ x:=fun c y r z=>by subst z; rw [r] at mu; exact mu
  have ntup:∀ c xs,H c=some (.tup xs)→c ≠ x:=fun c xs r z=>by subst z; rw [r] at mu; exact mu
  by_cases hb:b=x
  · subst hb; rw [upd_same] at q; cases q; exact new
  · rw [upd_ne hb] at q
    by_cases hbe:b=e
    · have q':H b=some (.own x):=by
        rcases he with z | z
        · exact absurd (hbe.trans z) hb
        · rw [hbe]; exact z
      rw [q] at q'; cases q'
      obtain ⟨v,hv⟩:=heo
      exact ⟨v,by rw [hbe]; exact hv⟩
    · refine (ok b u q).stay (fun c v hc r=>k c v ?_ r) (fun c r=>by rw [upd_ne (nown c b r)]; exact r) (fun c xs r=>by rw [upd_ne (ntup c xs r)]; exact r) fun c o u r=>by rw [upd_ne (fun z=>by subst z; rw [r] at mu; exact mu)]; exact r
      rcases hc with rfl | hc
      · exact hbe
      · rintro rfl
        rcases he with z | z
        · exact nown c b hc z
        · rw [hc] at z; cases z; exact hb rfl
end
structure Un (fs ex:List Addr) (H H':Hp) (h h':Heap):Prop where
  keep:∀ b o,h.get? b=some o→H b=none→b ∉ fs→b ∉ ex→h'.get? b=some o
  slot:∀ b o,h.get? b=some o→H b=none→b ∈ fs→b ∉ ex→∃ sl,h'.get? b=some { o with slots:=sl }
  free:∀ b o,h.get? b=some o→H b=none→b ∉ ex→H' b=none
  there:∀ b o,h.get? b=some o→b ∉ ex→∃ o',h'.get? b=some o'
  tups:∀ b xs,H b=some (.tup xs)→H' b=some (.tup xs)
  frzs:∀ b o u,H b=some (.frz o u)→H' b=some (.frz o u)
  tbls:∀ b q,H b=some (.tbl q)→H' b=some (.tbl q)
section
variable {fs fs' ex ex':List Addr} {H H1 H2:Hp} {h h1 h2 h':Heap} {a x e:Addr} {o:HO}
theorem Un.any (u:Un fs ex H H1 h h1) {b:Addr} {ob:Obj} (q:h.get? b=some ob) (n:H b=none) (hx:b ∉ ex):∃ sl,h1.get? b=some { ob with slots:=sl }:=by
  by_cases hb:b ∈ fs
  · exact u.slot b ob q n hb hx
  · exact ⟨ob.slots,u.keep b ob q n hb hx⟩
theorem Un.kept (k:∀ b u,h.get? b=some u→h'.get? b=some u):Un fs ex H H h h' :=
  ⟨fun b ob q _ _ _=>k b ob q,fun b ob q _ _ _=>⟨ob.slots,k b ob q⟩,fun _ _ _ n _=>n,fun b ob q _=>⟨ob,k b ob q⟩,fun _ _ q=>q,fun _ _ _ q=>q,fun _ _ q=>q⟩
theorem Un.refl:Un fs ex H H h h:=Un.kept fun _ _ q=>q
theorem Un.laid (k:∀ b u,h.get? b=some u→h'.get? b=some u) (hp:h.objs.size ≤ a) (hn:H a=none):Un fs ex H (upd H a o) h h' where
  keep:=fun b u q _ _ _=>k b u q
  slot:=fun b u q _ _ _=>⟨u.slots,k b u q⟩
  free:=fun b u q n _=>by rw [upd_ne (Nat.ne_of_lt (Nat.lt_of_lt_of_le (Heap.lt_size q) hp))]; exact n
  there:=fun b u q _=>⟨u,k b u q⟩
  tups:=fun b xs q=>by rw [upd_ne (ne_of_none q hn)]; exact q
  frzs:=fun b u xs q=>by rw [upd_ne (ne_of_none q hn)]; exact q
  tbls:=fun b ps q=>by rw [upd_ne (ne_of_none q hn)]; exact q
theorem Un.write (mu:Mut (H x)) (he:e=x ∨ H e=some (.own x)) (k:∀ b u,b ≠ e→h.get? b=some u→h'.get? b=some u) (heo:∃ u,h'.get? e=some u):Un fs ex H (upd H x o) h h':=by
  have hx:∀ b,H b=none→b ≠ x:=fun b n z=>by subst z; rw [n] at mu; exact mu
  have hb:∀ b,H b=none→b ≠ e:=fun b n z=>by
    subst z
    rcases he with r | r
    · exact hx b n r
    · rw [n] at r; cases r
  have hm:∀ b u,H b=some u → ¬ Mut (some u)→b ≠ x:=fun b u q nm z=>by subst z; rw [q] at mu; exact nm mu
  refine ⟨fun b u q n _ _=>k b u (hb b n) q,fun b u q n _ _=>⟨u.slots,k b u (hb b n) q⟩,fun b u q n _=>by rw [upd_ne (hx b n)]; exact n,fun b u q _=>?_,
    fun b xs q=>by rw [upd_ne (hm b _ q fun z=>z)]; exact q,fun b u xs q=>by rw [upd_ne (hm b _ q fun z=>z)]; exact q,fun b ps q=>by rw [upd_ne (hm b _ q fun z=>z)]; exact q⟩
  by_cases hbe:b=e
  · subst hbe; exact heo
  · exact ⟨u,k b u hbe q⟩
end
def trk (h:Heap) (H:Hp):List Addr:=(List.range h.objs.size).filter fun a=>(H a).isSome
def hidT (h:Heap) (H:Hp):Heap:=PySem.W.hideAll h (trk h H)
theorem hidT_size (h:Heap) (H:Hp):(hidT h H).objs.size=h.objs.size:=PySem.W.hideAll_size _ _
theorem hidT_get {h:Heap} {H:Hp} {b:Addr} {o:Obj} (e:h.get? b=some o) (n:H b=none):(hidT h H).get? b=some o :=
  PySem.W.hideAll_get _ e fun hm=>by
    have q:(H b).isSome=true:=(List.mem_filter.mp hm).2
    rw [n] at q; simp at q
theorem of_hidT {h:Heap} {H:Hp} {b:Addr} {o:Obj} (e:(hidT h H).get? b=some o):h.get? b=some o∧H b=none:=by
  have e':h.get? b=some o:=PySem.W.of_hideAll (trk h H) e
  refine ⟨e',?_⟩
  cases q:H b with
  | none=>rfl
  | some x =>
    have hm:b ∈ trk h H:=List.mem_filter.mpr ⟨List.mem_range.mpr (Heap.lt_size e'),by simp [q]⟩
    have z:(hidT h H).get? b=none:=PySem.W.hideAll_none (trk h H) hm
    rw [z] at e; cases e
def allNews (g h:Heap) (L:Addr):List (Addr × Obj):=(List.range h.objs.size).filterMap fun a=>if a=L ∨ (g.get? a).isSome=true then none else (h.get? a).map fun o=>(a,o)
def rest (g h:Heap) (L d:Addr):List (Addr × Obj):=(allNews g h L).filter fun p=>decide (p.1 ≠ d)
end L2
namespace L2
open PySem PySem.Spec PyProof.Rows
structure BHeap extends Heap where
  tabs:List (Addr × Str)
instance:Coe BHeap Heap:=⟨BHeap.toHeap⟩
structure Mod (K:PySem.W.Frag) (mg:Str→Option Value) (base:BHeap):Prop where
  kin:K.In base
  glob:base.Ns mainGlobals mg
  blt:∃ mb,base.Ns builtinsNs mb∧∀ x:Str,x ≠ "__name__"→mb x=bootBuiltins x
  nolimit:base.NoLimit
  bm:∃ (bm:Addr) (ob:Obj),mg "__builtins__"=some (.ref bm)∧bm ≠ builtinsNs∧base.get? bm=some ob∧ob.cls = .type "module"∧ob.dict=some builtinsNs∧ob.data = .plain
structure Cx where
  prog:Program
  w:World
  K:PySem.W.Frag
  mg:Str→Option Value
  base:BHeap
  A:Around
  N:List Str
  s₀:Shared
  H₀:Hp
  env:Env
  outer:List Env
  stack:List Env
  ex:List Addr
  fn:Str→Bool
  calm:Bool
  pn:List (Addr × Obj)
  xe:Value→Shared→Prop
def frs (l:List Env):List Addr:=l.filterMap (·.frame)
abbrev Cx.fs (X:Cx):List Addr:=frs X.outer
def Vis (sc:Scope) (x:Str):Prop:=sc.names.lookup x=some .local ∨ sc.names.lookup x=some .cell ∨ sc.names.lookup x=some .free
def Loc (sc:Scope) (x:Str):Prop:=sc.names.lookup x=some .local ∨ sc.names.lookup x=some .cell
def Look (env:Env) (h:Heap) (m:Str→Option Value) (x:Str) (u:Value):Prop :=
  (env.kindOf x=some .local∧m x=some u) ∨ ((env.kindOf x=some .cell ∨ env.kindOf x=some .free)∧∃ c,env.cells.lookup x=some c∧h.IsCell c (some u))
structure Cx.Ok (X:Cx):Prop where
  mod:Mod X.K X.mg X.base
  kind:X.env.scope.kind = .function
  glob:X.env.globals=mainGlobals
  blt:X.env.builtins=builtinsNs
  above:X.s₀.heap.objs.size ≤ X.env.locals
  inj:∀ x y c,X.env.cells.lookup x=some c→X.env.cells.lookup y=some c→x=y
  has:∀ x,(X.env.kindOf x=some .cell ∨ X.env.kindOf x=some .free)→∃ c,X.env.cells.lookup x=some c
  cab:∀ x c,X.fn x=true→X.env.cells.lookup x=some c→X.s₀.heap.objs.size ≤ c
  hd:X.calm=true→X.A.handled=none
  frames:X.A.frames=some X.stack
  stk:X.stack=X.outer ∨ (X.stack=X.env :: X.outer∧X.env.frame=some X.env.locals)
  exf:∀ b ∈ X.ex,b ≠ X.env.locals∧∀ x c,X.env.cells.lookup x=some c→c ≠ b
  bs:∀ b o,X.base.get? b=some o→X.s₀.heap.get? b=some o∧X.H₀ b=none
  bsz:X.base.objs.size ≤ X.s₀.heap.objs.size
  noex:∀ b o,X.base.get? b=some o→b ∉ X.ex
  exfs:∀ b ∈ X.ex,b ∉ X.fs
  funs:X.s₀.heap.FunFrames X.base X.outer
  frf:∀ b ∈ X.fs,X.H₀ b=none
  tabs:∀ p ∈ X.base.tabs,X.H₀ p.1=some (.tbl p.2)
structure Inv (X:Cx) (pins:List (Addr × Obj)) (σ:List (Option V)) (H:Hp) (s:Shared):Prop where
  ok:X.Ok
  os:s.os=X.s₀.os
  bare:AllBare s.gens
  base:Un X.fs X.ex X.H₀ H X.s₀.heap s.heap
  loc:∃ m,s.heap.Ns X.env.locals m∧∀ (i:Nat) (x:Str) (v:V),X.N[i]?=some x→σ[i]?=some (some v)→Vis X.env.scope x→∃ u,RelV v u∧Look X.env s.heap m x u
  cell:∀ x c,X.env.cells.lookup x=some c→∃ v,s.heap.IsCell c v
  free:H X.env.locals=none
  freeC:∀ x c,X.env.cells.lookup x=some c→H c=none
  pin:∀ p ∈ X.pn ++ pins,s.heap.get? p.1=some p.2∧H p.1=none∧p.1 ≠ X.env.locals∧p.1 ∉ X.fs∧∀ v,p.2.data ≠ .cell v
  hok:HOk X.prog X.w H s.heap
  len:σ.length=X.N.length
section
variable {X:Cx} {pins:List (Addr × Obj)} {σ:List (Option V)} {H H':Hp} {s:Shared} {h':Heap}
theorem Cx.Ok.nofr (ok:X.Ok) {b:Addr} {o:Obj} (e:X.base.get? b=some o):b ∉ X.fs:=fun hb=>by
  have:=(ok.funs.mem hb).1
  rw [e] at this; cases this
theorem Inv.bs (I:Inv X pins σ H s):∀ b o,X.base.get? b=some o→s.heap.get? b=some o∧H b=none:=fun b o e =>
  ⟨I.base.keep b o (I.ok.bs b o e).1 (I.ok.bs b o e).2 (I.ok.nofr e) (I.ok.noex b o e),I.base.free b o (I.ok.bs b o e).1 (I.ok.bs b o e).2 (I.ok.noex b o e)⟩
theorem Inv.bk (I:Inv X pins σ H s):∀ b o,X.base.get? b=some o→s.heap.get? b=some o:=fun b o e=>(I.bs b o e).1
theorem Inv.mod (I:Inv X pins σ H s):Mod X.K X.mg X.base:=I.ok.mod
theorem Inv.kIn (I:Inv X pins σ H s):X.K.In s.heap:=I.ok.mod.kin.keeps I.bk
theorem Inv.lt (I:Inv X pins σ H s):X.env.locals < s.heap.objs.size:=let ⟨_,hn,_⟩:=I.loc; hn.lt
theorem Inv.sz (I:Inv X pins σ H s):X.s₀.heap.objs.size ≤ s.heap.objs.size:=Nat.le_trans I.ok.above (Nat.le_of_lt I.lt)
theorem Inv.nofs (I:Inv X pins σ H s) {a:Addr} (h:s.heap.objs.size ≤ a):a ∉ X.fs:=fun hb=>by
  obtain ⟨_,o,ho,_⟩:=I.ok.funs.mem hb
  exact absurd (Nat.lt_of_lt_of_le (Heap.lt_size ho) (Nat.le_trans I.sz h)) (Nat.lt_irrefl _)
theorem Inv.cne (I:Inv X pins σ H s):∀ x c,X.env.cells.lookup x=some c→c ≠ X.env.locals:=fun x c e z=>by
  obtain ⟨v,o,ho,hd⟩:=I.cell x c e
  obtain ⟨m,⟨o',es,ep,ho',hd',_⟩,_⟩:=I.loc
  rw [z,ho'] at ho; cases ho; rw [hd'] at hd; cases hd
theorem Inv.funs (I:Inv X pins σ H s):s.heap.FunFrames X.base X.outer:=by
  have all:∀ (l:List Env),(∀ b ∈ frs l,b ∈ X.fs)→X.s₀.heap.FunFrames X.base l→s.heap.FunFrames X.base l:=by
    intro l
    induction l with
    | nil=>intro _ _; trivial
    | cons env r ih =>
      intro hs hl
      obtain ⟨hk,⟨L,o,hf,hn,ho,hd⟩,hr⟩:=hl
      have hL:L ∈ X.fs:=hs L (by unfold frs; rw [List.filterMap_cons,hf]; exact List.mem_cons_self)
      obtain ⟨sl,e⟩:=I.base.slot L o ho (I.ok.frf L hL) hL fun z=>I.ok.exfs L z hL
      exact ⟨hk,⟨L,_,hf,hn,e,hd⟩,ih (fun b hb=>hs b (by unfold frs; rw [List.filterMap_cons,hf]; exact List.mem_cons_of_mem _ hb)) hr⟩
  exact all X.outer (fun _ hb=>hb) I.ok.funs
theorem Inv.stack (I:Inv X pins σ H s):s.heap.FunFrames X.base X.stack:=by
  rcases I.ok.stk with e | ⟨e,hf⟩
  · rw [e]; exact I.funs
  · rw [e]
    obtain ⟨m,hn,_⟩:=I.loc
    refine .cons (by rw [I.ok.kind]; decide) hf hn ?_ I.funs
    exact Heap.get?_none_of_le (Nat.le_trans I.ok.bsz I.ok.above)
theorem Inv.stkSub (I:Inv X pins σ H s):∀ b ∈ frs X.stack,b ∈ X.env.locals :: X.fs:=fun b hb=>by
  rcases I.ok.stk with e | ⟨e,hf⟩
  · rw [e] at hb; exact List.mem_cons_of_mem _ hb
  · rw [e] at hb
    unfold frs at hb
    rw [List.filterMap_cons,hf] at hb
    exact hb
theorem Inv.stkFree (I:Inv X pins σ H s):∀ b ∈ frs X.stack,H b=none:=fun b hb=>by
  rcases List.mem_cons.mp (I.stkSub b hb) with e | hb
  · rw [e]; exact I.free
  · obtain ⟨_,o,ho,_⟩:=I.ok.funs.mem hb
    exact I.base.free b o ho (I.ok.frf b hb) fun z=>I.ok.exfs b z hb
theorem Inv.step {g':Array GenState} {t':Nat} {d':Drawn} {ch:List Addr} (I:Inv X pins σ H s)
    (hch:∀ b ∈ ch,(b ∈ X.ex ∨ X.s₀.heap.objs.size ≤ b)∧b ≠ X.env.locals∧(∀ x c,X.env.cells.lookup x=some c→c ≠ b)∧∀ p ∈ X.pn ++ pins,p.1 ≠ b)
    (keep:∀ b o,b ≠ X.env.locals→b ∉ X.fs→b ∉ ch→s.heap.get? b=some o→H b=none→h'.get? b=some o)
    (slot:∀ b o,b ≠ X.env.locals→b ∈ X.fs→b ∉ ch→s.heap.get? b=some o→H b=none→∃ sl,h'.get? b=some { o with slots:=sl }) (free:∀ b o,b ∉ ch→s.heap.get? b=some o→H b=none→H' b=none)
    (there:∀ b o,b ∉ ch→s.heap.get? b=some o→∃ o',h'.get? b=some o')
    (tups:∀ b xs,H b=some (.tup xs)→H' b=some (.tup xs)) (frzs:∀ b o u,H b=some (.frz o u)→H' b=some (.frz o u)) (tbls:∀ b q,H b=some (.tbl q)→H' b=some (.tbl q))
    (ns:∀ m,s.heap.Ns X.env.locals m→h'.Ns X.env.locals m) (hok:HOk X.prog X.w H' h') (hg:AllBare g') :
    Inv X pins σ H' { s with heap:=h',gens:=g',drawn:=d',toks:=t' }:=by
  have neL:∀ b o,X.s₀.heap.get? b=some o→b ≠ X.env.locals:=fun b o e=>Nat.ne_of_lt (Nat.lt_of_lt_of_le (Heap.lt_size e) I.ok.above)
  have neC:∀ b o,X.s₀.heap.get? b=some o→b ∉ X.ex→b ∉ ch:=fun b o e hx hb=>by
    rcases (hch b hb).1 with z | z
    · exact hx z
    · exact absurd (Nat.lt_of_lt_of_le (Heap.lt_size e) z) (Nat.lt_irrefl _)
  have cellK:∀ x c,X.env.cells.lookup x=some c→∀ v,s.heap.IsCell c v→h'.IsCell c v:=fun x c e v ⟨o,ho,hd⟩=>by
    have nch:c ∉ ch:=fun z=>(hch c z).2.2.1 x c e rfl
    by_cases hc:c ∈ X.fs
    · obtain ⟨sl,q⟩:=slot c o (I.cne x c e) hc nch ho (I.freeC x c e)
      exact ⟨_,q,hd⟩
    · exact ⟨o,keep c o (I.cne x c e) hc nch ho (I.freeC x c e),hd⟩
  refine ⟨I.ok,I.os,hg,⟨fun b o e n hb hx=>?_,fun b o e n hb hx=>?_,fun b o e n hx=>?_,fun b o e hx=>?_,fun b xs e=>tups b xs (I.base.tups b xs e),fun b o xs e=>frzs b o xs (I.base.frzs b o xs e),fun b ps e=>?_⟩,?_,fun x c e=>?_,?_,fun x c e=>?_,fun p hp=>?_,hok,I.len⟩
  · exact keep b o (neL b o e) hb (neC b o e hx) (I.base.keep b o e n hb hx) (I.base.free b o e n hx)
  · obtain ⟨sl,e1⟩:=I.base.slot b o e n hb hx
    obtain ⟨sl',e2⟩:=slot b _ (neL b o e) hb (neC b o e hx) e1 (I.base.free b o e n hx)
    exact ⟨sl',e2⟩
  · obtain ⟨o',e1⟩:=I.base.there b o e hx
    exact free b o' (neC b o e hx) e1 (I.base.free b o e n hx)
  · obtain ⟨o',e1⟩:=I.base.there b o e hx
    exact there b o' (neC b o e hx) e1
  · exact tbls b _ (I.base.tbls b ps e)
  · obtain ⟨m,hn,hl⟩:=I.loc
    refine ⟨m,ns m hn,fun i x v e1 e2 e3=>?_⟩
    obtain ⟨u,r,l⟩:=hl i x v e1 e2 e3
    refine ⟨u,r,?_⟩
    rcases l with l | ⟨k,c,e,z⟩
    · exact .inl l
    · exact .inr ⟨k,c,e,cellK x c e _ z⟩
  · obtain ⟨v,z⟩:=I.cell x c e
    exact ⟨v,cellK x c e v z⟩
  · obtain ⟨m,⟨o,_,_,ho,_⟩,_⟩:=I.loc
    exact free _ o (fun z=>(hch _ z).2.1 rfl) ho I.free
  · obtain ⟨v,o,ho,hd⟩:=I.cell x c e
    exact free c o (fun z=>(hch c z).2.2.1 x c e rfl) ho (I.freeC x c e)
  · obtain ⟨e,n,ne,nf,d⟩:=I.pin p hp
    have nch:p.1 ∉ ch:=fun z=>(hch p.1 z).2.2.2 p hp rfl
    exact ⟨keep p.1 p.2 ne nf nch e n,free p.1 p.2 nch e n,ne,nf,d⟩
theorem Inv.un {t':Nat} (I:Inv X pins σ H s) (u:Un X.fs [] H H' s.heap h') (hok:HOk X.prog X.w H' h'):Inv X pins σ H' { s with heap:=h',toks:=t' }:=by
  obtain ⟨m,⟨o,es,ep,ho,r⟩,_⟩:=id I.loc
  obtain ⟨sl,hL⟩:=u.any ho I.free (by simp)
  exact I.step (g':=s.gens) (d':=s.drawn) (ch:=[]) (fun _ z=>nomatch z) (fun b o _ hb _ e n=>u.keep b o e n hb (by simp)) (fun b o _ hb _ e n=>u.slot b o e n hb (by simp)) (fun b o _ e n=>u.free b o e n (by simp)) (fun b o _ e=>u.there b o e (by simp)) u.tups u.frzs u.tbls (fun m' hm=>by
    obtain ⟨o',es',ep',ho',r'⟩:=hm
    rw [ho] at ho'; cases ho'
    exact ⟨_,es',ep',hL,r'⟩) hok I.bare
theorem Inv.call {g':Array GenState} {t':Nat} {d':Drawn} {ch:List Addr} (I:Inv X pins σ H s) (u:Un (frs X.stack) ch H H' s.heap h') (hok:HOk X.prog X.w H' h') (hg:AllBare g')
    (hch:∀ b ∈ ch,(b ∈ X.ex ∨ X.s₀.heap.objs.size ≤ b)∧b ≠ X.env.locals∧(∀ x c,X.env.cells.lookup x=some c→c ≠ b)∧∀ p ∈ X.pn ++ pins,p.1 ≠ b) :
    Inv X pins σ H' { s with heap:=h',gens:=g',drawn:=d',toks:=t' }:=by
  obtain ⟨m,⟨o,es,ep,ho,r⟩,_⟩:=id I.loc
  obtain ⟨sl,hL⟩:=u.any ho I.free fun z=>(hch _ z).2.1 rfl
  exact I.step (ch:=ch) hch (fun b o hL hb hc e n=>u.keep b o e n (fun z=>(List.mem_cons.mp (I.stkSub b z)).elim hL hb) hc) (fun b o _ _ hc e n=>u.any e n hc) (fun b o hc e n=>u.free b o e n hc) (fun b o hc e=>u.there b o e hc) u.tups u.frzs u.tbls (fun m' hm=>by
    obtain ⟨o',es',ep',ho',r'⟩:=hm
    rw [ho] at ho'; cases ho'
    exact ⟨_,es',ep',hL,r'⟩) hok hg
theorem Inv.turned {t':Nat} {it:Addr} (I:Inv X pins σ H s) (k:∀ b o,b ≠ it→s.heap.get? b=some o→h'.get? b=some o) (hn:H it=none) (hL:it ≠ X.env.locals)
    (h1:it ∈ X.ex ∨ X.s₀.heap.objs.size ≤ it) (h2:∀ x c,X.env.cells.lookup x=some c→c ≠ it) (h3:∀ p ∈ X.pn ++ pins,p.1 ≠ it):Inv X pins σ H { s with heap:=h',toks:=t' }:=by
  have nit:∀ b u,H b=some u→b ≠ it:=fun b u e z=>by rw [z,hn] at e; cases e
  refine I.step (g':=s.gens) (d':=s.drawn) (ch:=[it]) (fun b hb=>?_) (fun b o _ _ hc e _=>k b o (fun z=>hc (by simp [z])) e) (fun b o _ _ hc e _=>⟨o.slots,k b o (fun z=>hc (by simp [z])) e⟩) (fun _ _ _ _ n=>n)
    (fun b o hc e=>⟨o,k b o (fun z=>hc (by simp [z])) e⟩) (fun _ _ e=>e) (fun _ _ _ e=>e) (fun _ _ e=>e) (fun m hm=>?_) (fun b u e=>?_) I.bare
  · have e:b=it:=by simpa using hb
    subst e
    exact ⟨h1,hL,h2,h3⟩
  · obtain ⟨o,es,ep,ho,r⟩:=hm
    exact ⟨o,es,ep,k _ o (Ne.symm hL) ho,r⟩
  · refine (I.hok b u e).stay (fun c v hc q=>k c v ?_ q) (fun _ q=>q) (fun _ _ q=>q) fun _ _ _ q=>q
    rcases hc with z | z
    · rw [z]; exact nit b u e
    · exact nit c _ z
theorem Inv.tok (I:Inv X pins σ H s) (t:Nat):Inv X pins σ H { s with toks:=t }:=I.un (h':=s.heap) (t':=t) Un.refl I.hok
theorem Inv.kept {t':Nat} (I:Inv X pins σ H s) (k:∀ b u,s.heap.get? b=some u→h'.get? b=some u):Inv X pins σ H { s with heap:=h',toks:=t' }:=I.un (Un.kept k) (I.hok.kept k)
theorem Inv.laid {a:Addr} {o:HO} {t':Nat} (I:Inv X pins σ H s) (k:∀ b u,s.heap.get? b=some u→h'.get? b=some u) (hp:s.heap.objs.size ≤ a) (new:ObjOk X.prog X.w (upd H a o) h' a o) :
    Inv X pins σ (upd H a o) { s with heap:=h',toks:=t' }:=I.un (Un.laid k hp (I.hok.fresh hp)) (I.hok.laid k hp new)
theorem Inv.write {x e:Addr} {o:HO} {t':Nat} (I:Inv X pins σ H s) (mu:Mut (H x)) (he:e=x ∨ H e=some (.own x)) (k:∀ b u,b ≠ e→s.heap.get? b=some u→h'.get? b=some u) (heo:∃ u,h'.get? e=some u)
    (new:ObjOk X.prog X.w (upd H x o) h' x o):Inv X pins σ (upd H x o) { s with heap:=h',toks:=t' }:=I.un (Un.write mu he k heo) (I.hok.write mu he k heo new)
theorem Inv.pins_of {pins':List (Addr × Obj)} (I:Inv X pins σ H s) (h:∀ p ∈ pins',s.heap.get? p.1=some p.2∧H p.1=none∧p.1 ≠ X.env.locals∧p.1 ∉ X.fs∧∀ v,p.2.data ≠ .cell v):Inv X pins' σ H s :=
  ⟨I.ok,I.os,I.bare,I.base,I.loc,I.cell,I.free,I.freeC,fun p hp=>(List.mem_append.mp hp).elim (fun z=>I.pin p (List.mem_append_left _ z)) (h p),I.hok,I.len⟩
theorem nodup_ix {N:List Str} (hN:N.Nodup) {i j:Nat} {x:Str} (a:N[i]?=some x) (b:N[j]?=some x):i=j:=by
  obtain ⟨h1,e1⟩:=List.getElem?_eq_some_iff.mp a
  obtain ⟨h2,e2⟩:=List.getElem?_eq_some_iff.mp b
  exact (List.getElem_inj hN).mp (e1.trans e2.symm)
theorem store_ok2 {M:Model} {A:Around} {E:Value→Shared→Prop} {i:Nat} {x:Str} {v:V} {u:Value} {Q:Unit→Shared→Prop} (I:Inv X pins σ H s) (hN:X.N.Nodup) (hi:X.N[i]?=some x) (hx:Loc X.env.scope x) (r:RelV v u)
    (h:∀ s',Inv X pins (σ.set i (some v)) H s'→(∃ a,Heap.SameBut a s.heap s'.heap∧(a=X.env.locals ∨ X.env.cells.lookup x=some a))→Q () s') (hf:X.fn x=true ∨ X.env.scope.names.lookup x=some .local:=by first | exact .inl rfl | exact .inr rfl | assumption):wpAny M A (storeName X.env x u) Q E s:=by
  obtain ⟨m,hn,hl⟩:=id I.loc
  have hcls:(X.env.scope.kind == .class || (X.env.scope.kind == .module && X.env.locals != X.env.globals))=false:=by rw [I.ok.kind]; rfl
  have hiσ:i < σ.length:=by rw [I.len]; exact (List.getElem?_eq_some_iff.mp hi).1
  have cne:=I.cne
  have tracked:∀ {a:Addr} {h':Heap},(∃ o,s.heap.get? a=some o∧H a=none)→Heap.SameBut a s.heap h'→HOk X.prog X.w H h':=fun {a h'} ha hs b ob e=>by
    obtain ⟨_,_,hfree⟩:=ha
    refine (I.hok b ob e).stay (fun c w' hc q=>(hs.2 c ?_).trans q) (fun _ q=>q) (fun _ _ q=>q) fun _ _ _ q=>q
    rintro rfl
    rcases hc with rfl | hc
    · rw [hfree] at e; cases e
    · rw [hfree] at hc; cases hc
  rcases hx with hk | hk
  · refine wpAny_storeName_local hk hn (fun h' hn' hs=>?_) hcls
    obtain ⟨oL,_,_,hoL,_⟩:=id hn
    refine h _ ⟨I.ok,I.os,I.bare,⟨fun b o e n hb hx=>?_,fun b o e n hb hx=>?_,I.base.free,fun b o e hx=>?_,I.base.tups,I.base.frzs,I.base.tbls⟩,⟨_,hn',fun j y v' e1 e2 e3=>?_⟩,fun y c e=>?_,I.free,I.freeC,fun p hp=>?_,tracked ⟨oL,hoL,I.free⟩ hs,by simpa using I.len⟩ ⟨_,hs, .inl rfl⟩
    · exact (hs.2 b (Nat.ne_of_lt (Nat.lt_of_lt_of_le (Heap.lt_size e) I.ok.above))).trans (I.base.keep b o e n hb hx)
    · obtain ⟨sl,e1⟩:=I.base.slot b o e n hb hx
      exact ⟨sl,(hs.2 b (Nat.ne_of_lt (Nat.lt_of_lt_of_le (Heap.lt_size e) I.ok.above))).trans e1⟩
    · obtain ⟨o',e1⟩:=I.base.there b o e hx
      exact ⟨o',(hs.2 b (Nat.ne_of_lt (Nat.lt_of_lt_of_le (Heap.lt_size e) I.ok.above))).trans e1⟩
    · by_cases hj:j=i
      · subst hj
        rw [hi] at e1; cases e1
        rw [List.getElem?_set_self hiσ] at e2
        cases e2
        exact ⟨u,r, .inl ⟨hk,by simp⟩⟩
      · rw [List.getElem?_set_ne (Ne.symm hj)] at e2
        obtain ⟨u',r',q⟩:=hl j y v' e1 e2 e3
        refine ⟨u',r',?_⟩
        rcases q with ⟨k,e⟩ | ⟨k,c,e,z⟩
        · refine .inl ⟨k,?_⟩
          have:y ≠ x:=fun e=>hj (nodup_ix hN e1 (e ▸ hi))
          simp [this,e]
        · exact .inr ⟨k,c,e,z.sameBut hs (cne y c e)⟩
    · obtain ⟨w',z⟩:=I.cell y c e
      exact ⟨w',z.sameBut hs (cne y c e)⟩
    · obtain ⟨e,n,ne,nf,d⟩:=I.pin p hp
      exact ⟨(hs.2 p.1 ne).trans e,n,ne,nf,d⟩
  · have hfn:X.fn x=true:=by
      rcases hf with z | z
      · exact z
      · rw [z] at hk; cases hk
    obtain ⟨c,hc⟩:=I.ok.has x (.inl hk)
    obtain ⟨w',z⟩:=I.cell x c hc
    refine wpAny_storeName_cell I.ok.kind hk hc z (fun h' hc' hs=>?_)
    obtain ⟨oc,hoc,hocd⟩:=id z
    refine h { s with heap:=h' } ⟨I.ok,I.os,I.bare,⟨fun b o e n hb hx=>?_,fun b o e n hb hx=>?_,I.base.free,fun b o e hx=>?_,I.base.tups,I.base.frzs,I.base.tbls⟩,⟨m,hn.sameBut hs (Ne.symm (cne x c hc)),fun j y v' e1 e2 e3=>?_⟩,fun y c' e=>?_,I.free,I.freeC,fun p hp=>?_,tracked ⟨oc,hoc,I.freeC x c hc⟩ hs,by simpa using I.len⟩ ⟨c,hs, .inr hc⟩
    · exact (hs.2 b (Nat.ne_of_lt (Nat.lt_of_lt_of_le (Heap.lt_size e) (I.ok.cab x c hfn hc)))).trans (I.base.keep b o e n hb hx)
    · obtain ⟨sl,e1⟩:=I.base.slot b o e n hb hx
      exact ⟨sl,(hs.2 b (Nat.ne_of_lt (Nat.lt_of_lt_of_le (Heap.lt_size e) (I.ok.cab x c hfn hc)))).trans e1⟩
    · obtain ⟨o',e1⟩:=I.base.there b o e hx
      exact ⟨o',(hs.2 b (Nat.ne_of_lt (Nat.lt_of_lt_of_le (Heap.lt_size e) (I.ok.cab x c hfn hc)))).trans e1⟩
    · by_cases hj:j=i
      · subst hj
        rw [hi] at e1; cases e1
        rw [List.getElem?_set_self hiσ] at e2
        cases e2
        exact ⟨u,r, .inr ⟨.inl hk,c,hc,hc'⟩⟩
      · rw [List.getElem?_set_ne (Ne.symm hj)] at e2
        obtain ⟨u',r',q⟩:=hl j y v' e1 e2 e3
        refine ⟨u',r',?_⟩
        rcases q with q | ⟨k,c',e,z'⟩
        · exact .inl q
        · refine .inr ⟨k,c',e,z'.sameBut hs ?_⟩
          rintro rfl
          exact hj (nodup_ix hN e1 (I.ok.inj _ _ _ e hc ▸ hi))
    · by_cases hcc:c'=c
      · subst hcc; exact ⟨_,hc'⟩
      · obtain ⟨w2,z2⟩:=I.cell y c' e
        exact ⟨w2,z2.sameBut hs hcc⟩
    · obtain ⟨e,n,ne,nf,d⟩:=I.pin p hp
      refine ⟨(hs.2 p.1 ?_).trans e,n,ne,nf,d⟩
      intro q
      rw [q,hoc] at e
      have q':oc=p.2:=Option.some.inj e
      exact d w' (by rw [← q']; exact hocd)
theorem store_ok {M:Model} {A:Around} {E:Value→Shared→Prop} {i:Nat} {x:Str} {v:V} {u:Value} {Q:Unit→Shared→Prop} (I:Inv X pins σ H s) (hN:X.N.Nodup) (hi:X.N[i]?=some x) (hx:Loc X.env.scope x) (r:RelV v u)
    (h:∀ s',Inv X pins (σ.set i (some v)) H s'→Q () s') (hf:X.fn x=true ∨ X.env.scope.names.lookup x=some .local:=by first | exact .inl rfl | exact .inr rfl | assumption):wpAny M A (storeName X.env x u) Q E s :=
  store_ok2 I hN hi hx r (fun s' I' _=>h s' I') hf
end
abbrev XK:=Value→Option Addr→Hp→Prop
abbrev St:=List (Option V)
abbrev VK:=V→Hp→Prop
abbrev TE:=St→Hp→VK→Prop
abbrev TT:=St→Hp→(Bool→Hp→Prop)→Prop
abbrev TA:=St→Hp→(List V→Hp→Prop)→Prop
structure Ends where
  nx:St→Hp→Prop
  rt:VK
  bk:St→Hp→Prop:=fun _ _=>False
  ct:St→Hp→Prop:=fun _ _=>False
abbrev TS:=Ends→St→Hp→Prop
def EP (X:Cx) (pins:List (Addr × Obj)) (σ:St) (Q:VK) (u:Value) (s':Shared):Prop := ∃ v H',Inv X pins σ H' s'∧RelV v u∧Q v H'
def TP (X:Cx) (pins:List (Addr × Obj)) (σ:St) (Q:Bool→Hp→Prop) (b:Bool) (s':Shared):Prop := ∃ H',Inv X pins σ H' s'∧Q b H'
def AP (X:Cx) (pins:List (Addr × Obj)) (σ:St) (Q:List V→Hp→Prop) (us:List Value) (s':Shared):Prop := ∃ vs H',Inv X pins σ H' s'∧Vals vs us∧Q vs H'
def SP (X:Cx) (pins:List (Addr × Obj)) (D:Ends) (f:Flow) (s':Shared):Prop :=
  match f with
  | .next => ∃ σ' H',Inv X pins σ' H' s'∧D.nx σ' H'
  | .brk => ∃ σ' H',Inv X pins σ' H' s'∧D.bk σ' H'
  | .cont => ∃ σ' H',Inv X pins σ' H' s'∧D.ct σ' H'
  | .ret u => ∃ v σ' H',Inv X pins σ' H' s'∧RelV v u∧D.rt v H'
def PE (X:Cx) (e:Expr) (t:TE):Prop :=
  ∀ (pins:List (Addr × Obj)) (s:Shared) (σ:St) (H:Hp) (Q:VK),Inv X pins σ H s→t σ H Q→wpAny (model X.prog X.w) X.A (eval e X.env) (EP X pins σ Q) X.xe s
def PT (X:Cx) (e:Expr) (t:TT):Prop :=
  ∀ (pins:List (Addr × Obj)) (s:Shared) (σ:St) (H:Hp) (Q:Bool→Hp→Prop),Inv X pins σ H s→t σ H Q→wpAny (model X.prog X.w) X.A (isTrue e X.env (eval e X.env)) (TP X pins σ Q) X.xe s
def PW (X:Cx) (e:Expr) (t:TT):Prop :=
  ∀ (whole:Sem Value) (pins:List (Addr × Obj)) (s:Shared) (σ:St) (H:Hp) (Q:Bool→Hp→Prop),Inv X pins σ H s→t σ H Q→wpAny (model X.prog X.w) X.A (isTrue e X.env whole) (TP X pins σ Q) X.xe s
theorem PW.pt {X:Cx} {e:Expr} {t:TT} (h:PW X e t):PT X e t:=h _
def PA (X:Cx) (es:List Expr) (t:TA):Prop :=
  ∀ (pos:Pos) (pins:List (Addr × Obj)) (s:Shared) (σ:St) (H:Hp) (Q:List V→Hp→Prop),Inv X pins σ H s→t σ H Q→wpAny (model X.prog X.w) X.A (spliced (backTo pos (starEach es X.env))) (AP X pins σ Q) X.xe s
def PS (X:Cx) (st:Stmt) (t:TS):Prop :=
  ∀ (pins:List (Addr × Obj)) (s:Shared) (σ:St) (H:Hp) (D:Ends),Inv X pins σ H s→t D σ H→wpAny (model X.prog X.w) X.A (exec st X.env) (SP X pins D) X.xe s
def PSs (X:Cx) (st:List Stmt) (t:TS):Prop :=
  ∀ (pins:List (Addr × Obj)) (s:Shared) (σ:St) (H:Hp) (D:Ends),Inv X pins σ H s→t D σ H→wpAny (model X.prog X.w) X.A (execs st X.env) (SP X pins D) X.xe s
theorem thn {α:Type} {t:Sem α} {Q Q':α→Shared→Prop} {M:Model} {A:Around} {E:Value→Shared→Prop} {s:Shared} (h:wpAny M A t Q E s) (hQ:∀ a s,Q a s→Q' a s):wpAny M A t Q' E s:=wpAny_mono h hQ fun _ _ x=>x
end L2
namespace L2
open PySem PySem.Spec PyProof.Rows
section
variable {X:Cx}
theorem bin {a b:Expr} {ta tb:TE} (ha:PE X a ta) (hb:PE X b tb) {pins:List (Addr × Obj)} {s:Shared} {σ:St} {H:Hp} {R:V→V→Hp→Prop} (I:Inv X pins σ H s) (h:ta σ H fun x H1=>tb σ H1 fun y H2=>R x y H2)
    {α:Type} {Q:α→Shared→Prop} {f:Value→Value→Sem α}
    (hf:∀ v u s2 x y H2,Inv X pins σ H2 s2→RelV x v→RelV y u→R x y H2→wpAny (model X.prog X.w) X.A (f v u) Q X.xe s2) :
    wpAny (model X.prog X.w) X.A (eval a X.env) (fun v s₁=>wpAny (model X.prog X.w) X.A (eval b X.env) (fun u s₂=>wpAny (model X.prog X.w) X.A (f v u) Q X.xe s₂) X.xe s₁) X.xe s:=by
  refine thn (ha pins s σ H _ I h) fun v s1 ⟨x,H1,I1,r1,q1⟩=>?_
  refine thn (hb pins s1 σ H1 _ I1 q1) fun u s2 ⟨y,H2,I2,r2,q2⟩=>?_
  exact hf v u s2 x y H2 I2 r1 r2 q2
def tVar (i:Nat):TE:=fun σ H Q => ∃ v,σ[i]?=some (some v)∧Q v H
def tC (v:V):TE:=fun _ H Q=>Q v H
theorem pe_var {i:Nat} {x:Str} {pos:Pos} (hN:X.N[i]?=some x) (hv:Vis X.env.scope x) (hd:(x == ("__debug__":Str))=false:=by decide) (hcd:(x == ("__classdict__":Str))=false:=by decide):PE X (.Name x pos) (tVar i):=by
  intro pins s σ H Q I h
  obtain ⟨v,e,h⟩:=h
  obtain ⟨m,hn,hl⟩:=I.loc
  obtain ⟨u,r,l⟩:=hl i x v hN e hv
  have fin:EP X pins σ Q u s:=⟨v,H,I,r,h⟩
  rcases l with ⟨hk,hm⟩ | ⟨hk,c,hc,hcell⟩
  · exact wpAny_Name (wpAny_loadName_local I.ok.kind hk hn hm fin) hd
  · rcases hk with hk | hk
    · exact wpAny_Name (wpAny_loadName_cell I.ok.kind hk hc hcell fin) hd
    · exact wpAny_Name (wpAny_loadName_free I.ok.kind hk hc hcell fin hcd) hd
theorem pe_int {i j pos}:PE X (.Constant (.int i) j pos) (tC (.int i)):=fun _ _ _ H _ I h=>wpAny_Constant_int ⟨.int i,H,I.tok _,⟨_,rfl⟩,h⟩
theorem pe_bl {b j pos}:PE X (.Constant (.bool b) j pos) (tC (.bl b)):=fun _ _ _ H _ I h=>Constant_bool ⟨.bl b,H,I,rfl,h⟩
def Gl (X:Cx) (x:Str):Prop:=X.env.kindOf x=some .globalImplicit
theorem ld_glob {E:Value→Shared→Prop} {pins:List (Addr × Obj)} {s:Shared} {σ:St} {H:Hp} {x:Str} {u:Value} {pos:Pos} {Q:Value→Shared→Prop} (I:Inv X pins σ H s) (hg:Gl X x) (hm:X.mg x=some u) (h:Q u s)
    (hd:(x == ("__debug__":Str))=false:=by decide):wpAny (model X.prog X.w) X.A (eval (.Name x pos) X.env) Q E s :=
  Calls.Name_function_global I.ok.kind hg (Calls.loadGlobal_global (by rw [I.ok.glob]; exact I.mod.glob.keeps I.bk) hm h) hd
theorem ld_blt {E:Value→Shared→Prop} {pins:List (Addr × Obj)} {s:Shared} {σ:St} {H:Hp} {x:Str} {u:Value} {pos:Pos} {Q:Value→Shared→Prop} (I:Inv X pins σ H s) (hg:Gl X x) (hm:X.mg x=none) (hv:bootBuiltins x=some u) (h:Q u s)
    (hn:x ≠ "__name__":=by decide) (hd:(x == ("__debug__":Str))=false:=by decide):wpAny (model X.prog X.w) X.A (eval (.Name x pos) X.env) Q E s:=by
  obtain ⟨mb,h1,h2⟩:=I.mod.blt
  exact Calls.Name_function_global I.ok.kind hg (Calls.loadGlobal_builtin (by rw [I.ok.glob]; exact I.mod.glob.keeps I.bk) hm (by rw [I.ok.blt]; exact h1.keeps I.bk) ((h2 x hn).trans hv) h) hd
theorem pe_glob {x:Str} {v:V} {u:Value} {pos:Pos} (hg:Gl X x) (hm:X.mg x=some u) (r:RelV v u) (hd:(x == ("__debug__":Str))=false:=by decide):PE X (.Name x pos) (tC v) :=
  fun _ _ _ H _ I h=>ld_glob I hg hm ⟨v,H,I,r,h⟩ hd
theorem pe_bltn {x:Str} {v:V} {u:Value} {pos:Pos} (hg:Gl X x) (hm:X.mg x=none) (hv:bootBuiltins x=some u) (r:RelV v u) (hn:x ≠ "__name__":=by decide) (hd:(x == ("__debug__":Str))=false:=by decide):PE X (.Name x pos) (tC v) :=
  fun _ _ _ H _ I h=>ld_blt I hg hm hv ⟨v,H,I,r,h⟩ hn hd
variable {a b:Expr} {ta tb:TE} {pos:Pos}
variable {tA tB':TT} {rest:List Expr}
def tAnd (t u:TT):TT:=fun σ H Q=>t σ H fun c H1=>if c=true then u σ H1 Q else Q false H1
def tOr (t u:TT):TT:=fun σ H Q=>t σ H fun c H1=>if c=true then Q true H1 else u σ H1 Q
def tNot (t:TT):TT:=fun σ H Q=>t σ H fun c H1=>Q (!c) H1
theorem pw_and1 (ha:PT X a tA):PW X (.BoolOp .And [a] pos) tA:=by
  intro wh pins s σ H Q I h
  refine isTrue_and (thn (ha pins s σ H Q I h) fun c s1 e=>?_)
  cases c with
  | true=>exact isTrue_and_nil e
  | false=>exact e
theorem pw_or1 (ha:PT X a tA):PW X (.BoolOp .Or [a] pos) tA:=by
  intro wh pins s σ H Q I h
  refine isTrue_or (thn (ha pins s σ H Q I h) fun c s1 e=>?_)
  cases c with
  | false=>exact isTrue_or_nil e
  | true=>exact e
theorem pw_and (ha:PT X a tA) (hb:PW X (.BoolOp .And (b :: rest) pos) tB'):PW X (.BoolOp .And (a :: b :: rest) pos) (tAnd tA tB'):=by
  intro wh pins s σ H Q I h
  refine isTrue_and (thn (ha pins s σ H _ I h) fun c s1 ⟨H1,I1,q1⟩=>?_)
  cases c with
  | true=>exact hb wh pins s1 σ H1 Q I1 q1
  | false=>exact ⟨H1,I1,q1⟩
theorem pw_or (ha:PT X a tA) (hb:PW X (.BoolOp .Or (b :: rest) pos) tB'):PW X (.BoolOp .Or (a :: b :: rest) pos) (tOr tA tB'):=by
  intro wh pins s σ H Q I h
  refine isTrue_or (thn (ha pins s σ H _ I h) fun c s1 ⟨H1,I1,q1⟩=>?_)
  cases c with
  | true=>exact ⟨H1,I1,q1⟩
  | false=>exact hb wh pins s1 σ H1 Q I1 q1
theorem pt_not (ha:PT X a tA):PT X (.UnaryOp .Not a pos) (tNot tA):=by
  intro pins s σ H Q I h
  exact isTrue_not (ha pins s σ H (fun c H1=>Q (!c) H1) I h)
def tAndV (ta tb:TE):TE:=fun σ H Q=>ta σ H fun x H1 => ∃ c,x = .bl c∧if c=true then tb σ H1 Q else Q (.bl false) H1
def tNotV (ta:TE):TE:=fun σ H Q=>ta σ H fun x H1 => ∃ c,x = .bl c∧Q (.bl (!c)) H1
theorem pe_one {op} {t:TE} (h:PE X a t):PE X (.BoolOp op [a] pos) t:=fun pins s σ H Q I hw=>BoolOp_one (h pins s σ H Q I hw)
theorem pe_and (ha:PE X a ta) (hb:PE X (.BoolOp .And (b :: rest) pos) tb):PE X (.BoolOp .And (a :: b :: rest) pos) (tAndV ta tb):=by
  intro pins s σ H Q I h
  refine BoolOp_and (thn (ha pins s σ H _ I h) fun v s1 ⟨x,H1,I1,r1,q1⟩=>?_)
  obtain ⟨c,rfl,q1⟩:=q1
  cases r1
  refine wpAny_truthy_bool ?_
  cases c with
  | true=>exact hb pins s1 σ H1 Q I1 q1
  | false=>exact ⟨.bl false,H1,I1,rfl,q1⟩
theorem pe_not (ha:PE X a ta):PE X (.UnaryOp .Not a pos) (tNotV ta):=by
  intro pins s σ H Q I h
  refine UnaryOp_ (thn (ha pins s σ H _ I h) fun v s1 ⟨x,H1,I1,r1,q1⟩=>?_)
  obtain ⟨c,rfl,q1⟩:=q1
  cases r1
  exact not_of (wpAny_truthy_bool ⟨.bl (!c),H1,I1,rfl,q1⟩)
end
end L2
namespace L2
open PySem PySem.Spec PyProof.Rows
def SqL (K:PySem.W.Frag) (H:Hp) (a:Addr) (xs:List V):Prop :=
  Rd H a (.lst xs) ∨
    ∃ (o:Obj) (its:Array Value) (n:Nat),K.lookup a=some o∧o.cls = .type "list"∧o.dict=none∧o.data = .seq its n∧its.size ≤ sizeLine∧Vals xs its.toList
def SqT (K:PySem.W.Frag) (H:Hp) (a:Addr) (xs:List V):Prop :=
  Rd H a (.tup xs) ∨
    ∃ (o:Obj) (its:Array Value) (n:Nat),K.lookup a=some o∧o.cls = .type "tuple"∧o.data = .seq its n∧its.size ≤ sizeLine∧Vals xs its.toList
def absV:Value→Option V
  | .none=>some .non
  | .bool b=>some (.bl b)
  | .int i _=>some (.int i)
  | .str x _=>some (.str x)
  | .bytes b _=>some (.byt b)
  | .float b _=>some (.flt b)
  | .ref a=>some (.ref a)
  | .type n=>some (.ty n)
  | _=>none
theorem RelV.abs {x:V} {u:Value} (r:RelV x u):absV u=some x:=by
  cases x with
  | non=>cases r; rfl
  | bl _=>cases r; rfl
  | int _=>obtain ⟨t,rfl⟩:=r; rfl
  | str _=>obtain ⟨t,rfl⟩:=r; rfl
  | byt _=>obtain ⟨t,rfl⟩:=r; rfl
  | flt _=>obtain ⟨t,rfl⟩:=r; rfl
  | ref _=>cases r; rfl
  | ty _=>cases r; rfl
theorem RelV.inj {x y:V} {u:Value} (r:RelV x u) (q:RelV y u):x=y:=Option.some.inj (r.abs.symm.trans q.abs)
theorem Vals.inj:∀ {xs ys:List V} {us:List Value},Vals xs us→Vals ys us→xs=ys
  | _,_,_, .nil, .nil=>rfl
  | _,_,_, .cons r t, .cons r' t'=>by rw [r.inj r',Vals.inj t t']
section
variable {X:Cx} {pins:List (Addr × Obj)} {σ:St} {H:Hp} {s:Shared} {a:Addr} {xs ys:List V}
theorem SqL.of {K:PySem.W.Frag} (h:H a=some (.lst xs)):SqL K H a xs := .inl (.inl h)
theorem SqT.of {K:PySem.W.Frag} (h:H a=some (.tup xs)):SqT K H a xs := .inl (.inl h)
theorem Inv.list (I:Inv X pins σ H s) (h:SqL X.K H a xs):∃ its:List Value,Vals xs its∧PlainL s.heap a its.toArray∧xs.length ≤ sizeLine:=by
  rcases h with h | ⟨o,its,n,hk,hc,hd,hs,hz,r⟩
  · obtain ⟨z,its,n,r,e⟩:=h.ok I.hok
    exact ⟨its,r,⟨_,n,e,rfl,rfl,rfl⟩,z⟩
  · refine ⟨its.toList,r,⟨o,n,I.kIn a o hk,hc,hd,by simpa using hs⟩,?_⟩
    have e:=r.length
    simp only [Array.length_toList] at e
    omega
theorem Inv.tuple (I:Inv X pins σ H s) (h:SqT X.K H a xs):∃ its:List Value,Vals xs its∧IsTup s.heap a its.toArray∧xs.length ≤ sizeLine:=by
  rcases h with h | ⟨o,its,n,hk,hc,hs,hz,r⟩
  · obtain ⟨z,its,r,p⟩:=h.ok I.hok
    exact ⟨its,r,p,z⟩
  · refine ⟨its.toList,r,⟨o,I.kIn a o hk,hc,n,by simpa using hs⟩,?_⟩
    have e:=r.length
    simp only [Array.length_toList] at e
    omega
theorem Inv.list_inj (I:Inv X pins σ H s) (h:SqL X.K H a xs) (h':SqL X.K H a ys):xs=ys:=by
  obtain ⟨its,r,⟨o,n,e,_,_,d⟩,_⟩:=I.list h
  obtain ⟨its',r',⟨o',n',e',_,_,d'⟩,_⟩:=I.list h'
  rw [e] at e'; cases e'
  rw [d] at d'
  injection d' with d1 _
  have:its=its':=by simpa using congrArg Array.toList d1
  subst this
  exact r.inj r'
theorem Inv.tuple_inj (I:Inv X pins σ H s) (h:SqT X.K H a xs) (h':SqT X.K H a ys):xs=ys:=by
  obtain ⟨its,r,⟨o,e,_,n,d⟩,_⟩:=I.tuple h
  obtain ⟨its',r',⟨o',e',_,n',d'⟩,_⟩:=I.tuple h'
  rw [e] at e'; cases e'
  rw [d] at d'
  injection d' with d1 _
  have:its=its':=by simpa using congrArg Array.toList d1
  subst this
  exact r.inj r'
end
abbrev Cx.wish (X:Cx) (E:Value→Shared→Prop):Cx:={ X with xe:=E }
abbrev Cx.nox (X:Cx):Cx:=X.wish fun _ _=>False
theorem Cx.Ok.wish {X:Cx} (ok:X.Ok) (E:Value→Shared→Prop):(X.wish E).Ok :=
  ⟨ok.mod,ok.kind,ok.glob,ok.blt,ok.above,ok.inj,ok.has,ok.cab,ok.hd,ok.frames,ok.stk,ok.exf,ok.bs,ok.bsz,ok.noex,ok.exfs,ok.funs,ok.frf,ok.tabs⟩
theorem Cx.Ok.unwish {X:Cx} {E:Value→Shared→Prop} (ok:(X.wish E).Ok):X.Ok :=
  ⟨ok.mod,ok.kind,ok.glob,ok.blt,ok.above,ok.inj,ok.has,ok.cab,ok.hd,ok.frames,ok.stk,ok.exf,ok.bs,ok.bsz,ok.noex,ok.exfs,ok.funs,ok.frf,ok.tabs⟩
section
variable {X:Cx} {pins:List (Addr × Obj)} {σ:St} {H:Hp} {s:Shared} {E:Value→Shared→Prop}
theorem Inv.wish (I:Inv X pins σ H s) (E:Value→Shared→Prop):Inv (X.wish E) pins σ H s:=⟨I.ok.wish E,I.os,I.bare,I.base,I.loc,I.cell,I.free,I.freeC,I.pin,I.hok,I.len⟩
theorem Inv.unwish (I:Inv (X.wish E) pins σ H s):Inv X pins σ H s:=⟨I.ok.unwish,I.os,I.bare,I.base,I.loc,I.cell,I.free,I.freeC,I.pin,I.hok,I.len⟩
theorem SP.unwish {D:Ends} {f:Flow} {s':Shared} (h:SP (X.wish E) pins D f s'):SP X pins D f s':=by
  cases f with
  | next=>obtain ⟨σ',H',I,q⟩:=h; exact ⟨σ',H',I.unwish,q⟩
  | brk=>obtain ⟨σ',H',I,q⟩:=h; exact ⟨σ',H',I.unwish,q⟩
  | cont=>obtain ⟨σ',H',I,q⟩:=h; exact ⟨σ',H',I.unwish,q⟩
  | ret u=>obtain ⟨v,σ',H',I,r,q⟩:=h; exact ⟨v,σ',H',I.unwish,r,q⟩
theorem PSs.nox {st:List Stmt} {t:TS} (h:PSs X.nox st t):PSs X st t:=fun pins s σ H D I hw =>
  wpAny_mono (h pins s σ H D (I.wish _) hw) (fun _ _ q=>q.unwish) fun _ _ z=>False.elim z
end
section
variable {X:Cx} {st:Stmt} {rest:List Stmt} {t u:TS} {e:Expr} {te:TE} {pos:Pos}
def tNext:TS:=fun D σ H=>D.nx σ H
def tSeq (t u:TS):TS:=fun D σ H=>t { D with nx:=u D } σ H
theorem pss_nil:PSs X [] tNext:=fun _ _ σ H _ I h=>wpAny_execs_nil ⟨σ,H,I,h⟩
theorem pss_cons (h1:PS X st t) (h2:PSs X rest u):PSs X (st :: rest) (tSeq t u):=by
  intro pins s σ H D I h
  refine wpAny_execs_cons (thn (h1 pins s σ H { D with nx:=u D } I h) fun f s1 q=>?_)
  cases f with
  | next =>
    obtain ⟨σ',H',I',q⟩:=q
    exact h2 pins s1 σ' H' D I' q
  | ret v=>exact q
  | brk=>exact q
  | cont=>exact q
theorem pss_one (h1:PS X st t):PSs X [st] t:=by
  intro pins s σ H D I h
  refine wpAny_execs_cons (thn (h1 pins s σ H D I h) fun f s1 q=>?_)
  cases f with
  | next=>exact wpAny_execs_nil q
  | ret v=>exact q
  | brk=>exact q
  | cont=>exact q
theorem Inv.quiet {pins:List (Addr × Obj)} {σ:St} {H:Hp} {s:Shared} (I:Inv X pins σ H s):interactive X.env=false:=by simp [interactive,I.ok.kind]
def tDrop (te:TE):TS:=fun D σ H=>te σ H fun _ H1=>D.nx σ H1
theorem ps_expr (he:PE X e te) (hs:swapsWith e none pos.line X.env=pure false:=by rfl):PS X (.Expr e pos) (tDrop te):=by
  intro pins s σ H D I h
  exact wpAny_Expr_any (thn (he pins s σ H _ I h) fun v s1 ⟨x,H1,I1,r1,q1⟩=>⟨σ,H1,I1,q1⟩) I.quiet hs
def tRet (te:TE):TS:=fun D σ H=>te σ H D.rt
theorem ps_ret (he:PE X e te):PS X (.Return (some e) pos) (tRet te):=by
  intro pins s σ H D I h
  exact wpAny_Return_some (thn (he pins s σ H _ I h) fun v s1 ⟨x,H1,I1,r1,q1⟩=>⟨x,σ,H1,I1,r1,q1⟩)
def tIfS (c:TT) (t u:TS):TS:=fun D σ H=>c σ H fun b H1=>if b=true then t D σ H1 else u D σ H1
theorem ps_if {c:Expr} {a b:List Stmt} {tc:TT} (hc:PT X c tc) (ha:PSs X a t) (hb:PSs X b u):PS X (.If c a b pos) (tIfS tc t u):=by
  intro pins s σ H D I h
  refine wpAny_If (thn (hc pins s σ H _ I h) fun d s1 ⟨H1,I1,q1⟩=>?_)
  cases d with
  | true=>exact ha pins s1 σ H1 D I1 q1
  | false=>exact hb pins s1 σ H1 D I1 q1
end
abbrev TG:=V→St→Hp→(St→Hp→Prop)→Prop
abbrev TGs:=List V→St→Hp→(St→Hp→Prop)→Prop
def PG (X:Cx) (target:Expr) (t:TG):Prop :=
  ∀ (pins:List (Addr × Obj)) (s:Shared) (σ:St) (H:Hp) (v:V) (u:Value) (Q:St→Hp→Prop),Inv X pins σ H s→RelV v u→t v σ H Q →
    wpAny (model X.prog X.w) X.A (assign target X.env u) (fun _ s' => ∃ σ' H',Inv X pins σ' H' s'∧Q σ' H') X.xe s
def PGs (X:Cx) (ts:List Expr) (t:TGs):Prop :=
  ∀ (pins:List (Addr × Obj)) (s:Shared) (σ:St) (H:Hp) (vs:List V) (us:List Value) (Q:St→Hp→Prop),Inv X pins σ H s→Vals vs us→t vs σ H Q →
    wpAny (model X.prog X.w) X.A (assignInOrder ((assignEach ts X.env).map (·.2)) us) (fun _ s' => ∃ σ' H',Inv X pins σ' H' s'∧Q σ' H') X.xe s
abbrev TSet:=V→V→V→Hp→(Hp→Prop)→Prop
def PSet (X:Cx) (t:TSet):Prop :=
  ∀ (pins:List (Addr × Obj)) (s:Shared) (σ:St) (H:Hp) (o i v:V) (ov iv u:Value) (Q:Hp→Prop),Inv X pins σ H s→RelV o ov→RelV i iv→RelV v u→t o i v H Q →
    wpAny (model X.prog X.w) X.A (setItem ov iv u) (fun _ s' => ∃ H',Inv X pins σ H' s'∧Q H') X.xe s
section
variable {X:Cx} {pos:Pos}
def gName (i:Nat):TG:=fun v σ H Q=>Q (σ.set i (some v)) H
theorem pg_name {i:Nat} {x:Str} (hN:X.N.Nodup) (hi:X.N[i]?=some x) (hx:Loc X.env.scope x) (hf:X.fn x=true ∨ X.env.scope.names.lookup x=some .local:=by first | exact .inl rfl | exact .inr rfl | assumption):PG X (.Name x pos) (gName i):=by
  intro pins s σ H v u Q I r h
  exact wpAny_assign_Name (store_ok I hN hi hx r (fun s' I'=>⟨_,H,I',h⟩) hf)
def gNil:TGs:=fun vs σ H Q=>vs=[]∧Q σ H
def gCons (t:TG) (u:TGs):TGs:=fun vs σ H Q => ∃ v r,vs=v :: r∧t v σ H fun σ' H'=>u r σ' H' Q
theorem pgs_nil:PGs X [] gNil:=by
  intro pins s σ H vs us Q I r h
  obtain ⟨e,h⟩:=h
  subst e
  cases r
  exact assignInOrder_nil ⟨σ,H,I,h⟩
theorem pgs_cons {e:Expr} {es:List Expr} {t:TG} {u:TGs} (h1:PG X e t) (h2:PGs X es u)
    (hs:(assignEach (e :: es) X.env).map (·.2)=assign e X.env :: (assignEach es X.env).map (·.2):=by rfl):PGs X (e :: es) (gCons t u):=by
  intro pins s σ H vs us Q I r h
  obtain ⟨v,vr,e1,h⟩:=h
  subst e1
  cases r with
  | cons r rr =>
    rw [hs]
    refine assignInOrder_cons (thn (h1 pins s σ H _ _ _ I r h) fun _ s1 ⟨σ1,H1,I1,q1⟩=>?_)
    exact h2 pins s1 σ1 H1 _ _ Q I1 rr q1
def gTup (K:PySem.W.Frag) (n:Nat) (t:TGs):TG:=fun v σ H Q => ∃ a xs,v = .ref a∧SqT K H a xs∧xs.length=n∧t xs σ H Q
theorem pg_tup {es:List Expr} {k:Nat} {t:TGs} {n:Nat} (hc:X.calm=true) (h:PGs X es t)
    (hn:(assignEach es X.env).length=n:=by rfl) (hst:(assignEach es X.env).findIdx? (·.1)=none:=by rfl):PG X (.Tuple es k pos) (gTup X.K n t):=by
  intro pins s σ H v u Q I r hw
  obtain ⟨a,xs,e1,hq,hl,hw⟩:=hw
  subst e1
  cases r
  obtain ⟨its,rv,ht,hz⟩:=I.tuple hq
  refine assign_Tuple_tuple (I.ok.hd hc) ht (by simp [hn, ← hl,rv.length]) hst fun h' hx=>?_
  have I1:Inv X pins σ H { s with heap:=h' }:=I.kept (t':=s.toks) fun b o e=>hx b o (Nat.ne_of_lt (Heap.lt_size e)) e
  exact h pins _ σ H xs _ Q I1 (by simpa using rv) hw
def gSub (to ti:TE) (t:TSet):TG:=fun v σ H Q=>to σ H fun o H1=>ti σ H1 fun i H2=>t o i v H2 fun H3=>Q σ H3
theorem pg_sub {o i:Expr} {to ti:TE} {t:TSet} (ho:PE X o to) (hi:PE X i ti) (hs:PSet X t)
    (ha:∀ v,assign (.Subscript o i pos) X.env v=(do
      let ov ← holding [v] (eval o X.env)
      let iv ← holding [v,ov] (eval i X.env)
      standAt pos
      holding [v,ov,iv] (setItem ov iv v)
      release [v,ov,iv] []):=by intro _; rfl):PG X (.Subscript o i pos) (gSub to ti t):=by
  intro pins s σ H v u Q I r h
  rw [ha]
  refine wpAny_bind (wpAny_holding (thn (ho pins s σ H _ I h) fun ov s1 ⟨x,H1,I1,r1,q1⟩=>?_))
  refine wpAny_bind (wpAny_holding (thn (hi pins s1 σ H1 _ I1 q1) fun iv s2 ⟨y,H2,I2,r2,q2⟩=>?_))
  refine wpAny_bind (wpAny_standAt (wpAny_bind (wpAny_holding (thn (hs pins s2 σ H2 x y v ov iv u _ I2 r1 r2 r q2) fun _ s3 ⟨H3,I3,q3⟩=>?_))))
  exact wpAny_release ⟨σ,H3,I3,q3⟩
def tAsg (te:TE) (g:TG):TS:=fun D σ H=>te σ H fun x H1=>g x σ H1 D.nx
theorem ps_asg {tg e:Expr} {te:TE} {g:TG} (he:PE X e te) (hg:PG X tg g) (hs:swapsWithSole [tg] e pos.line X.env=pure false:=by rfl) (hw:swappedStores [tg] e X.env=pure none:=by rfl)
    (h1:(assignEach [tg] X.env).map (·.2)=[assign tg X.env]:=by rfl):PS X (.Assign [tg] e pos) (tAsg te g):=by
  intro pins s σ H D I h
  refine wpAny_Assign_stores (thn (he pins s σ H _ I h) fun v s1 ⟨x,H1,I1,r1,q1⟩=>?_) hs hw
  rw [h1]
  exact thn (hg pins s1 σ H1 x v _ I1 r1 q1) fun _ s2 q=>q
theorem ps_set {i:Nat} {x:Str} {e:Expr} {te:TE} {pos':Pos} (hN:X.N.Nodup) (hi:X.N[i]?=some x) (hx:Loc X.env.scope x) (he:PE X e te) (hs:swapsWith e (some (.Name x pos')) pos.line X.env=pure false:=by rfl) (hf:X.fn x=true ∨ X.env.scope.names.lookup x=some .local:=by first | exact .inl rfl | exact .inr rfl | assumption) :
    PS X (.Assign [.Name x pos'] e pos) (tAsg te (gName i)):=by
  intro pins s σ H D I h
  refine wpAny_Assign_Name (thn (he pins s σ H _ I h) fun v s1 ⟨y,H1,I1,r1,q1⟩=>?_) hs
  exact store_ok I1 hN hi hx r1 (fun s2 I2=>⟨_,H1,I2,q1⟩) hf
end
structure It where
  go:Nat→Hp→Prop
  yld:Nat→Hp→V→Hp→Prop
  stop:Nat→Hp→Prop
def FpOk (X:Cx) (pins:List (Addr × Obj)) (H:Hp) (b:Addr):Prop :=
  H b=none∧b ≠ X.env.locals∧b ∉ X.fs∧(b ∈ X.ex ∨ X.s₀.heap.objs.size ≤ b)∧(∀ x c,X.env.cells.lookup x=some c→c ≠ b)∧∀ p ∈ X.pn ++ pins,p.1 ≠ b
theorem Inv.fpOk {X:Cx} {pins:List (Addr × Obj)} {σ:St} {H H':Hp} {s:Shared} {b:Addr} (I:Inv X pins σ H s) (hb:s.heap.objs.size ≤ b) (hn:H' b=none):FpOk X pins H' b:=by
  refine ⟨hn,Nat.ne_of_gt (Nat.lt_of_lt_of_le I.lt hb),I.nofs hb, .inr (Nat.le_trans I.sz hb),fun x c e z=>?_,fun p hp z=>?_⟩
  · obtain ⟨v,q⟩:=I.cell x c e
    exact absurd (Nat.lt_of_lt_of_le q.lt (by rw [z]; exact hb)) (Nat.lt_irrefl _)
  · exact absurd (Nat.lt_of_lt_of_le (Heap.lt_size (I.pin p hp).1) (by rw [z]; exact hb)) (Nat.lt_irrefl _)
structure Turn (P:Program) (w:World) (K:PySem.W.Frag) (tg:Expr) (J:It) (fp:List Addr) (it:Addr) (tn:Nat→Heap→Prop):Prop where
  mem:it ∈ fp
  obj:∀ i h,tn i h→∀ b ∈ fp, ∃ o,h.get? b=some o∧∀ v,o.data ≠ .cell v
  keep:∀ i h h',tn i h→(∀ b ∈ fp, ∀ o,h.get? b=some o→h'.get? b=some o)→tn i h'
  item:∀ (X:Cx),X.prog=P→X.w=w→X.K=K→X.calm=true→∀ (i:Nat) (pins:List (Addr × Obj)) (s:Shared) (σ:St) (H:Hp) (E:Value→Shared→Prop),Inv X pins σ H s→(∀ b ∈ fp,FpOk X pins H b)→tn i s.heap→J.go i H →
    wpAny (model P w) X.A (pyNext (.ref it)) (fun r s1 => ∃ u,r=some u ∧
      wpAny (model P w) X.A (letOwnedTupleGo tg (.ref it) u) (fun _ s2 => ∃ x H',Inv X pins σ H' s2∧RelV x u∧J.yld i H x H'∧tn (i + 1) s2.heap∧∀ b ∈ fp,H' b=none) E s1) E s
  done:∀ (X:Cx),X.prog=P→X.w=w→X.K=K→X.calm=true→∀ (i:Nat) (pins:List (Addr × Obj)) (s:Shared) (σ:St) (H:Hp) (E:Value→Shared→Prop),Inv X pins σ H s→(∀ b ∈ fp,FpOk X pins H b)→tn i s.heap→J.stop i H →
    wpAny (model P w) X.A (pyNext (.ref it)) (fun r s1=>r=none∧Inv X pins σ H s1) E s
  self:∀ (A:Around) (i:Nat) (s:Shared) (Q:Value→Shared→Prop) (E:Value→Shared→Prop),tn i s.heap→Q (.ref it) s→wpAny (model P w) A (pyIter (.ref it)) Q E s
abbrev TI:=St→Hp→(It→Hp→Prop)→Prop
def PIE (X:Cx) (pins:List (Addr × Obj)) (σ:St) (tg:Expr) (R:It→Hp→Prop) (itv:Value) (s2:Shared):Prop :=
  ∃ (it:Addr) (fp:List Addr) (tn:Nat→Heap→Prop) (J:It) (H':Hp),itv = .ref it∧Inv X pins σ H' s2∧Turn X.prog X.w X.K tg J fp it tn∧tn 0 s2.heap∧(∀ b ∈ fp,FpOk X pins H' b)∧R J H'
def PI (X:Cx) (tg iter:Expr) (wi:TI):Prop :=
  ∀ (pins:List (Addr × Obj)) (s:Shared) (σ:St) (H:Hp) (R:It→Hp→Prop),Inv X pins σ H s→wi σ H R →
    wpAny (model X.prog X.w) X.A (eval iter X.env) (fun v s1=>wpAny (model X.prog X.w) X.A (pyIter v) (PIE X pins σ tg R) X.xe s1) X.xe s
theorem go_of {M:Model} {A:Around} {E:Value→Shared→Prop} {s:Shared} {tg:Expr} {it:Addr} {u:Value} {o:Obj} {n:String} {vs:Array Value} {Q:Unit→Shared→Prop} (ho:s.heap.get? it=some o) (hc:o.cls = .type n) (hd:o.data = .fields vs)
    (hn:["enumerate", "zip", "dict_itemiterator", "dict_reverseitemiterator", "odict_iterator", "itertools.zip_longest", "itertools.pairwise"].contains n=false) (hQ:Q () s):wpAny M A (letOwnedTupleGo tg (.ref it) u) Q E s:=by
  unfold letOwnedTupleGo
  cases tg <;> first
    | exact wpAny_pure hQ
    | (cases u <;> first
        | exact wpAny_pure hQ
        | (refine wpAny_bind (wpAny_load ho ?_)
           rw [hc,hd]
           show wpAny M A (if (["enumerate", "zip", "dict_itemiterator", "dict_reverseitemiterator", "odict_iterator", "itertools.zip_longest", "itertools.pairwise"].contains n && vs[0]? == some (rawInt _))=true then _ else _) Q E s
           rw [if_neg (by intro h; rw [hn,Bool.false_and] at h; cases h)]
           exact wpAny_pure hQ))
def Itl (K:PySem.W.Frag) (a:Addr):It :=
  ⟨fun i H => ∃ xs x,SqL K H a xs∧xs[i]?=some x,fun i H x H'=>H'=H∧∀ xs,SqL K H a xs→xs[i]?=some x,fun i H => ∃ xs,SqL K H a xs∧xs.length ≤ i⟩
def Itr (lo:Int) (n:Nat):It:=⟨fun i _=>i < n,fun i H x H'=>H'=H∧x = .int (lo + i),fun i _=>n ≤ i⟩
theorem turn_list {P:Program} {w:World} {K:PySem.W.Frag} {tg:Expr} (a it:Addr):Turn P w K tg (Itl K a) [it] it (fun i h=>h.IsListIter it a i) where
  mem:=by simp
  obj:=fun i h st b hb=>by
    have e:b=it:=by simpa using hb
    subst e
    obtain ⟨o,e,c,d⟩:=st
    exact ⟨o,e,fun v z=>by rw [d] at z; cases z⟩
  keep:=fun i h h' st k=>st.at fun o e=>k it (by simp) o e
  item:=by
    intro X hP hw hK hc i pins s σ H E I hf st hg
    subst hP hw hK
    obtain ⟨xs,x,hq,hx⟩:=hg
    obtain ⟨its,rv,p,hz⟩:=I.list hq
    obtain ⟨u,hu,ru⟩:=rv.get hx
    obtain ⟨f0,f1,f2,f3,f4,f5⟩:=hf it (by simp)
    refine wpAny_pyNext_list_item st p.isList (x:=u) (by simpa using hu) fun h' st' sb=>?_
    have I1:Inv X pins σ H { s with heap:=h' }:=I.turned (t':=s.toks) (fun b o hb e=>(sb.2 b hb).trans e) f0 f1 f3 f4 f5
    obtain ⟨o,e,c,d⟩:=id st'
    exact ⟨u,rfl,go_of (s:={ s with heap:=h' }) e c d (by decide) ⟨x,H,I1,ru,⟨rfl,fun ys hy=>by rw [I.list_inj hy hq]; exact hx⟩,st',fun b hb=>(hf b hb).1⟩⟩
  done:=by
    intro X hP hw hK hc i pins s σ H E I hf st hg
    subst hP hw hK
    obtain ⟨xs,hq,hx⟩:=hg
    obtain ⟨its,rv,p,hz⟩:=I.list hq
    obtain ⟨f0,f1,f2,f3,f4,f5⟩:=hf it (by simp)
    have hl:=rv.length
    exact wpAny_pyNext_list_end (I.ok.hd hc) st p.isList (by simp; omega) fun h' eb=>⟨rfl,I.turned (t':=s.toks) (fun b o hb e=>eb b o hb e) f0 f1 f3 f4 f5⟩
  self:=fun _ _ _ _ _ st h=>wpAny_pyIter_listiter st h
theorem turn_range {P:Program} {w:World} {K:PySem.W.Frag} {tg:Expr} (it:Addr) (lo:Int) (n:Nat):Turn P w K tg (Itr lo n) [it] it (fun i h=>IsRangeIter h it (lo + (i:Nat) * 1) ((n:Int) - (i:Nat)) 1) where
  mem:=by simp
  obj:=fun i h st b hb=>by
    have e:b=it:=by simpa using hb
    subst e
    exact ⟨_,st,fun v z=>by
      have z':Data.fields _=Data.cell v:=z
      cases z'⟩
  keep:=fun i h h' st k=>k it (by simp) _ st
  item:=by
    intro X hP hw hK hc i pins s σ H E I hf st hg
    subst hP hw hK
    obtain ⟨f0,f1,f2,f3,f4,f5⟩:=hf it (by simp)
    have W:=Walks.range (prog:=X.prog) (w:=X.w) (I.ok.hd hc) it lo 1 n
    refine W.item i s _ _ hg st fun v h' tk hv st' kk=>?_
    obtain ⟨t,rfl⟩:=hv
    have I1:Inv X pins σ H { s with heap:=h',toks:=tk }:=I.turned (fun b o hb e=>kk b o (by simpa using hb) e) f0 f1 f3 f4 f5
    refine ⟨_,rfl,go_of (s:={ s with heap:=h',toks:=tk }) (n := "range_iterator") st' rfl rfl (by decide) ⟨.int (lo + i),H,I1,⟨t,?_⟩,⟨rfl,rfl⟩,st',fun b hb=>(hf b hb).1⟩⟩
    rw [Int.mul_one]
  done:=by
    intro X hP hw hK hc i pins s σ H E I hf st hg
    subst hP hw hK
    obtain ⟨f0,f1,f2,f3,f4,f5⟩:=hf it (by simp)
    exact wpAny_pyNext_range_end (I.ok.hd hc) st (by have:n ≤ i:=hg; omega) fun h' eb=>⟨rfl,I.turned (t':=s.toks) (fun b o hb e=>eb b o hb e) f0 f1 f3 f4 f5⟩
  self:=fun _ _ _ _ _ st h=>wpAny_pyIter_rangeiter st h
end L2
namespace L2
open PySem PySem.Spec PyProof.Rows
section
variable {X:Cx} {tg:Expr}
def iList (K:PySem.W.Frag) (tl:TE):TI:=fun σ H R=>tl σ H fun x H1 => ∃ a,x = .ref a∧(∃ xs,SqL K H1 a xs)∧R (Itl K a) H1
theorem pi_list {l:Expr} {tl:TE} (hl:PE X l tl):PI X tg l (iList X.K tl):=by
  intro pins s σ H R I h
  refine thn (hl pins s σ H _ I h) fun v s1 ⟨x,H1,I1,r1,q1⟩=>?_
  obtain ⟨a,e,⟨xs,hq⟩,q⟩:=q1
  subst e
  cases r1
  obtain ⟨its,rv,p,hz⟩:=I1.list hq
  refine wpAny_pyIter_list p.isList ?_
  refine ⟨s1.heap.objs.size,[s1.heap.objs.size],_,_,H1,rfl,I1.kept (t':=s1.toks) fun b o e=>Heap.get?_push_of_some _ e,turn_list a _,⟨_,Heap.get?_push_size _ rfl,rfl,rfl⟩,fun b hb=>?_,q⟩
  have e:b=s1.heap.objs.size:=by simpa using hb
  subst e
  exact I1.fpOk (Nat.le_refl _) (I1.hok.fresh (Nat.le_refl _))
theorem range_it {pins:List (Addr × Obj)} {σ:St} {H:Hp} {s:Shared} {R:It→Hp→Prop} {E:Value→Shared→Prop} {lo hi:Int} {t u v:Tok} {tk:Nat} (I:Inv X pins σ H s) (h1 : -(2 ^ 62) ≤ lo) (h2:lo < 2 ^ 62) (h3 : -(2 ^ 62) ≤ hi) (h4:hi < 2 ^ 62)
    (q:R (Itr lo (hi - lo).toNat) H):wpAny (model X.prog X.w) X.A (pyIter (.ref s.heap.objs.size)) (PIE X pins σ tg R) E { s with heap:=s.heap.push { cls := .type "range",data := .fields #[.int lo t, .int hi u, .int 1 v] },toks:=tk }:=by
  refine wpAny_pyIter_range (IsRange.new ..) (small_one h1 h2 h3 h4) ?_
  have I1:Inv X pins σ H { s with heap:=s.heap.push { cls := .type "range",data := .fields #[.int lo t, .int hi u, .int 1 v] },toks:=tk }:=I.kept fun b o e=>Heap.get?_push_of_some _ e
  refine ⟨(s.heap.push { cls := .type "range",data := .fields #[.int lo t, .int hi u, .int 1 v] }).objs.size,[(s.heap.push { cls := .type "range",data := .fields #[.int lo t, .int hi u, .int 1 v] }).objs.size],_,_,H,rfl,
    I1.kept (t':=tk) fun b o e=>Heap.get?_push_of_some _ e,turn_range _ lo (hi - lo).toNat,?_,fun b hb=>?_,q⟩
  · have e1:lo + ((0:Nat):Int) * 1=lo:=by simp
    have e2:(((hi - lo).toNat:Nat):Int) - ((0:Nat):Int)=Builtin.Range.rangeSize lo hi 1:=by rw [rangeSize_one]; split <;> omega
    show IsRangeIter _ _ (lo + ((0:Nat):Int) * 1) ((((hi - lo).toNat:Nat):Int) - ((0:Nat):Int)) 1
    rw [e1,e2]
    exact Heap.get?_push_size _ rfl
  · have e:b=(s.heap.push { cls := .type "range",data := .fields #[.int lo t, .int hi u, .int 1 v] }).objs.size:=by simpa using hb
    subst e
    exact I1.fpOk (Nat.le_refl _) (I1.hok.fresh (Nat.le_refl _))
def iRng1 (ta:TA):TI:=fun σ H R=>ta σ H fun vs H1 => ∃ j:Int,vs=[.int j] ∧ -(2 ^ 62) ≤ j∧j < 2 ^ 62∧R (Itr 0 j.toNat) H1
def iRng2 (ta:TA):TI:=fun σ H R=>ta σ H fun vs H1 => ∃ i j:Int,vs=[.int i, .int j]∧(-(2 ^ 62) ≤ i∧i < 2 ^ 62 ∧ -(2 ^ 62) ≤ j∧j < 2 ^ 62)∧R (Itr i (j - i).toNat) H1
theorem pi_range1 {a:Expr} {ta:TA} {p pos:Pos} (hg:Gl X "range") (hm:X.mg "range"=none) (ha:PA X [a] ta) (hs:starEach [a] X.env=[(false,eval a X.env)]:=by rfl):PI X tg (.Call (.Name "range" p) [a] [] pos) (iRng1 ta):=by
  intro pins s σ H R I h
  refine Call_ (ld_blt I hg hm boot_range (PyProof.Rows.callWith_type1 (thn (ha pos pins s σ H _ I h) fun us s1 ⟨vs,H1,I1,r1,q1⟩=>?_) hs rfl))
  obtain ⟨j,e,q1,q2,q⟩:=q1
  subst e
  cases r1 with
  | cons r rr =>
    cases rr
    obtain ⟨t,rfl⟩:=r
    exact call_range_1 (range_it I1 (by omega) (by omega) q1 q2 (by simpa using q))
theorem pi_range2 {a b:Expr} {ta:TA} {p pos:Pos} (hg:Gl X "range") (hm:X.mg "range"=none) (ha:PA X [a,b] ta) (hs:starEach [a,b] X.env=[(false,eval a X.env),(false,eval b X.env)]:=by rfl) (hs2:starEach [b] X.env=[(false,eval b X.env)]:=by rfl) :
    PI X tg (.Call (.Name "range" p) [a,b] [] pos) (iRng2 ta):=by
  intro pins s σ H R I h
  refine Call_ (ld_blt I hg hm boot_range (PyProof.Rows.callWith_type1 (thn (ha pos pins s σ H _ I h) fun us s1 ⟨vs,H1,I1,r1,q1⟩=>?_) (by rw [hs,hs2]) (by rw [hs2]; rfl)))
  obtain ⟨i,j,e,⟨q1,q2,q3,q4⟩,q⟩:=q1
  subst e
  cases r1 with
  | cons r rr =>
    cases rr with
    | cons r' rr =>
      cases rr
      obtain ⟨t,rfl⟩:=r
      obtain ⟨t',rfl⟩:=r'
      exact call_range_2 (range_it I1 q1 q2 q3 q4 q)
def tFor (wi:TI) (g:TG) (tb:TS):TS:=fun D σ H=>wi σ H fun J H1 => ∃ W:Nat→Nat→St→Hp→Prop,(∃ m,W 0 m σ H1)∧∀ i m σ H,W i m σ H →
  (J.stop i H∧D.nx σ H) ∨ (J.go i H∧∃ N:St→Hp→Prop,(∀ σ' H',N σ' H'→∃ m',m' < m∧W (i + 1) m' σ' H')∧∀ x H',J.yld i H x H'→g x σ H' fun σ2 H2=>tb { D with nx:=N,ct:=N,bk:=D.nx } σ2 H2)
def pinsAt (fp:List Addr) (h:Heap):List (Addr × Obj):=fp.filterMap fun b=>(h.get? b).map fun o=>(b,o)
theorem mem_pinsAt {fp:List Addr} {h:Heap} {b:Addr} {o:Obj} (hb:b ∈ fp) (e:h.get? b=some o):(b,o) ∈ pinsAt fp h:=List.mem_filterMap.mpr ⟨b,hb,by rw [e]; rfl⟩
theorem of_pinsAt {fp:List Addr} {h:Heap} {p:Addr × Obj} (hp:p ∈ pinsAt fp h):p.1 ∈ fp∧h.get? p.1=some p.2:=by
  obtain ⟨b,hb,e⟩:=List.mem_filterMap.mp hp
  cases q:h.get? b with
  | none=>rw [q] at e; cases e
  | some o =>
    rw [q] at e
    have e':(b,o)=p:=Option.some.inj e
    subst e'
    exact ⟨hb,q⟩
theorem Inv.pinned {pins:List (Addr × Obj)} {σ:St} {H:Hp} {s:Shared} {fp:List Addr} (I:Inv X pins σ H s) (hf:∀ b ∈ fp,FpOk X pins H b) (ho:∀ b ∈ fp, ∃ o,s.heap.get? b=some o∧∀ v,o.data ≠ .cell v):Inv X (pins ++ pinsAt fp s.heap) σ H s :=
  I.pins_of fun p hp=>(List.mem_append.mp hp).elim (fun z=>I.pin p (List.mem_append_right _ z)) fun z=>by
    obtain ⟨hb,e⟩:=of_pinsAt z
    obtain ⟨f0,f1,f2,_⟩:=hf p.1 hb
    obtain ⟨o,e',d⟩:=ho p.1 hb
    rw [e] at e'; cases e'
    exact ⟨e,f0,f1,f2,d⟩
theorem Inv.unpinned {pins pl:List (Addr × Obj)} {σ:St} {H:Hp} {s:Shared} (I:Inv X (pins ++ pl) σ H s):Inv X pins σ H s:=I.pins_of fun p hp=>I.pin p (List.mem_append_right _ (List.mem_append_left _ hp))
theorem ps_for {iter:Expr} {body:List Stmt} {wi:TI} {g:TG} {tb:TS} {pos:Pos} (hp:PassesOwn (model X.prog X.w) X.A X.env X.xe) (hc:X.calm=true) (hi:PI X tg iter wi) (hg:PG X tg g) (hb:PSs X body tb)
    (hs:∀ x,foldedSetIterable iter X.env x=pure x:=by intro _; rfl):PS X (.For tg iter body [] pos) (tFor wi g tb):=by
  intro pins s σ H D I h
  refine wpAny_For (thn (hi pins s σ H _ I h) fun v s1 h1=>thn h1 fun itv s2 h2=>?_) hs
  obtain ⟨it,fp,tn,J,H2,e,I2,T,st2,f2,W,⟨m0,w0⟩,turn⟩:=h2
  subst e
  -- what stays true of the iterator's objects through the loop
  have stat:∀ {H':Hp},(∀ b ∈ fp,H' b=none)→∀ b ∈ fp,FpOk X pins H' b:=fun hn b hb=>⟨hn b hb,(f2 b hb).2⟩
  refine codeAny_forLoop_any (fun n s' => ∃ i σ' H',Inv X pins σ' H' s'∧tn i s'.heap∧(∀ b ∈ fp,H' b=none)∧W i n σ' H') ?_ m0 ⟨0,σ,H2,I2,st2,fun b hb=>(f2 b hb).1,w0⟩
  rintro n s3 ⟨i,σ3,H3,I3,st3,fr3,w3⟩
  rcases turn i n σ3 H3 w3 with ⟨stop,qn⟩ | ⟨go,N,hN,step⟩
  · refine wpAny_passesOwn hp (thn (T.done X rfl rfl rfl hc i pins s3 σ3 H3 X.xe I3 (stat fr3) st3 stop) fun r s4 ⟨hr,I4⟩=>?_)
    subst hr
    exact wpAny_execs_nil ⟨σ3,H3,I4,qn⟩
  · refine wpAny_passesOwn hp (thn (T.item X rfl rfl rfl hc i pins s3 σ3 H3 X.xe I3 (stat fr3) st3 go) fun r s4 ⟨u,hr,h4⟩=>?_)
    subst hr
    refine wpAny_passesOwn hp (thn h4 fun _ s5 ⟨x,H5,I5,r5,y5,st5,fr5⟩=>?_)
    have I5':=I5.pinned (stat fr5) (T.obj _ _ st5)
    refine wpAny_passesOwn hp (thn (hg _ s5 σ3 H5 x u _ I5' r5 (step x H5 y5)) fun _ s6 ⟨σ6,H6,I6,q6⟩=>?_)
    refine wpAny_passesOwn hp (thn (hb _ s6 σ6 H6 _ I6 q6) fun f s7 q7=>?_)
    have again:∀ {σ7:St} {H7:Hp},Inv X (pins ++ pinsAt fp s5.heap) σ7 H7 s7→N σ7 H7→∃ m,m < n∧∃ i σ' H',Inv X pins σ' H' s7∧tn i s7.heap∧(∀ b ∈ fp,H' b=none)∧W i m σ' H':=fun {σ7 H7} I7 n7=>by
      obtain ⟨m',hm,w7⟩:=hN σ7 H7 n7
      refine ⟨m',hm,i + 1,σ7,H7,I7.unpinned,T.keep _ _ _ st5 fun b hb o e=>(I7.pin (b,o) (List.mem_append_right _ (List.mem_append_right _ (mem_pinsAt hb e)))).1,fun b hb=>?_,w7⟩
      obtain ⟨o,e,d⟩:=T.obj _ _ st5 b hb
      exact (I7.pin (b,o) (List.mem_append_right _ (List.mem_append_right _ (mem_pinsAt hb e)))).2.1
    cases f with
    | next=>obtain ⟨σ7,H7,I7,n7⟩:=q7; exact again I7 n7
    | cont=>obtain ⟨σ7,H7,I7,n7⟩:=q7; exact again I7 n7
    | brk=>obtain ⟨σ7,H7,I7,q7⟩:=q7; exact ⟨σ7,H7,I7.unpinned,q7⟩
    | ret v=>obtain ⟨x7,σ7,H7,I7,r7,q7⟩:=q7; exact ⟨x7,σ7,H7,I7.unpinned,r7,q7⟩
end
end L2
namespace L2
open PySem PySem.Spec PyProof.Rows
abbrev R2:=V→V→Hp→VK→Prop
def OpR (X:Cx) (f:Value→Value→Sem Value) (r:R2):Prop :=
  ∀ (pins:List (Addr × Obj)) (s:Shared) (σ:St) (H:Hp) (x y:V) (v u:Value) (Q:VK),Inv X pins σ H s→RelV x v→RelV y u→r x y H Q →
    wpAny (model X.prog X.w) X.A (f v u) (EP X pins σ Q) X.xe s
def UnR (X:Cx) (f:Value→Sem Value) (r:V→Hp→VK→Prop):Prop :=
  ∀ (pins:List (Addr × Obj)) (s:Shared) (σ:St) (H:Hp) (x:V) (v:Value) (Q:VK),Inv X pins σ H s→RelV x v→r x H Q →
    wpAny (model X.prog X.w) X.A (f v) (EP X pins σ Q) X.xe s
def CallR (X:Cx) (f:Value) (r:List V→Hp→VK→Prop):Prop :=
  ∀ (pins:List (Addr × Obj)) (s:Shared) (σ:St) (H:Hp) (xs:List V) (us:List Value) (Q:VK),Inv X pins σ H s→Vals xs us→r xs H Q →
    wpAny (model X.prog X.w) X.A (call f us) (EP X pins σ Q) X.xe s
def TruR (X:Cx) (r:V→Hp→(Bool→Hp→Prop)→Prop):Prop :=
  ∀ (pins:List (Addr × Obj)) (s:Shared) (σ:St) (H:Hp) (x:V) (v:Value) (Q:Bool→Hp→Prop),Inv X pins σ H s→RelV x v→r x H Q →
    wpAny (model X.prog X.w) X.A (truthy v) (TP X pins σ Q) X.xe s
def tOp (r:R2) (ta tb:TE):TE:=fun σ H Q=>ta σ H fun x H1=>tb σ H1 fun y H2=>r x y H2 Q
def tUn (r:V→Hp→VK→Prop) (ta:TE):TE:=fun σ H Q=>ta σ H fun x H1=>r x H1 Q
def rI (C:Int→Int→Prop) (g:Int→Int→V):R2:=fun x y H Q => ∃ i j,x = .int i∧y = .int j∧C i j∧Q (g i j) H
def rI0 (g:Int→Int→V):R2:=fun x y H Q => ∃ i j,x = .int i∧y = .int j∧Q (g i j) H
def rU (g:Int→V):V→Hp→VK→Prop:=fun x H Q => ∃ i,x = .int i∧Q (g i) H
section
variable {X:Cx} {a b c:Expr} {ta tb tc:TE} {pos:Pos}
theorem binT (ha:PE X a ta) (hb:PE X b tb) {pins:List (Addr × Obj)} {s:Shared} {σ:St} {H:Hp} {R:V→V→Hp→Prop} (I:Inv X pins σ H s)
    (h:ta σ H fun x H1=>tb σ H1 fun y H2=>R x y H2) {Q:Value→Shared→Prop} {f:Value→Value→Sem Value}
    (hf:∀ v u s2 x y H2,Inv X pins σ H2 s2→RelV x v→RelV y u→R x y H2→wpAny (model X.prog X.w) X.A (f v u) Q X.xe s2) :
    wpAny (model X.prog X.w) X.A (eval a X.env) (fun v s₁=>wpAny (model X.prog X.w) X.A (eval b X.env) (fun u s₂=>wpAny (model X.prog X.w) X.A (f v u) Q X.xe s₂) X.xe s₁) X.xe s:=by
  refine thn (ha pins s σ H _ I h) fun v s1 ⟨x,H1,I1,r1,q1⟩=>?_
  refine thn (hb pins s1 σ H1 _ I1 q1) fun u s2 ⟨y,H2,I2,r2,q2⟩=>?_
  exact hf v u s2 x y H2 I2 r1 r2 q2
theorem pe_un {op:UnaryOp} {r:V→Hp→VK→Prop} (ho:UnR X (unaryOp op) r) (ha:PE X a ta):PE X (.UnaryOp op a pos) (tUn r ta):=by
  intro pins s σ H Q I h
  exact UnaryOp_ (thn (ha pins s σ H _ I h) fun v s1 ⟨x,H1,I1,r1,q1⟩=>ho pins s1 σ H1 x v Q I1 r1 q1)
theorem opI {f:Value→Value→Sem Value} {C:Int→Int→Prop} {g:Int→Int→Int}
    (rule:∀ (i j:Int) (t u:Tok) (s:Shared) (Q:Value→Shared→Prop) (E:Value→Shared→Prop),C i j→Q (.int (g i j) s.toks) { s with toks:=s.toks + 1 }→wpAny (model X.prog X.w) X.A (f (.int i t) (.int j u)) Q E s) :
    OpR X f (rI C fun i j => .int (g i j)):=by
  intro pins s σ H x y v u Q I rx ry h
  obtain ⟨i,j,rfl,rfl,hc,q⟩:=h
  obtain ⟨t,rfl⟩:=rx
  obtain ⟨t',rfl⟩:=ry
  exact rule i j t t' s _ _ hc ⟨.int (g i j),H,I.tok _,⟨_,rfl⟩,q⟩
theorem opI0 {f:Value→Value→Sem Value} {g:Int→Int→Int}
    (rule:∀ (i j:Int) (t u:Tok) (s:Shared) (Q:Value→Shared→Prop) (E:Value→Shared→Prop),Q (.int (g i j) s.toks) { s with toks:=s.toks + 1 }→wpAny (model X.prog X.w) X.A (f (.int i t) (.int j u)) Q E s) :
    OpR X f (rI0 fun i j => .int (g i j)):=by
  intro pins s σ H x y v u Q I rx ry h
  obtain ⟨i,j,rfl,rfl,q⟩:=h
  obtain ⟨t,rfl⟩:=rx
  obtain ⟨t',rfl⟩:=ry
  exact rule i j t t' s _ _ ⟨.int (g i j),H,I.tok _,⟨_,rfl⟩,q⟩
theorem opB0 {f:Value→Value→Sem Value} {g:Int→Int→Bool}
    (rule:∀ (i j:Int) (t u:Tok) (s:Shared) (Q:Value→Shared→Prop) (E:Value→Shared→Prop),Q (.bool (g i j)) s→wpAny (model X.prog X.w) X.A (f (.int i t) (.int j u)) Q E s) :
    OpR X f (rI0 fun i j => .bl (g i j)):=by
  intro pins s σ H x y v u Q I rx ry h
  obtain ⟨i,j,rfl,rfl,q⟩:=h
  obtain ⟨t,rfl⟩:=rx
  obtain ⟨t',rfl⟩:=ry
  exact rule i j t t' s _ _ ⟨.bl (g i j),H,I,rfl,q⟩
def CPow (i j:Int):Prop:=0 ≤ j∧j ≤ 1000000∧i.natAbs < 2 ^ 64
theorem op_add:OpR X (binaryOp .Add) (rI0 fun i j => .int (i + j)):=opI0 fun _ _ _ _ _ _ _ q=>add_int q
theorem op_sub:OpR X (binaryOp .Sub) (rI0 fun i j => .int (i - j)):=opI0 fun _ _ _ _ _ _ _ q=>sub_int q
theorem op_modN:OpR X (binaryOp .Mod) (rI (fun _ j=>j ≠ 0) fun i j => .int (i.fmod j)):=opI fun _ _ _ _ _ _ _ hc q=>mod_int' hc q
theorem op_pow:OpR X (binaryOp .Pow) (rI CPow fun i j => .int (i ^ j.toNat)):=opI fun _ _ _ _ _ _ _ hc q=>pow_int_small hc.1 hc.2.1 hc.2.2 q
theorem unI {f:Value→Sem Value} {g:Int→Int}
    (rule:∀ (i:Int) (t:Tok) (s:Shared) (Q:Value→Shared→Prop) (E:Value→Shared→Prop),Q (.int (g i) s.toks) { s with toks:=s.toks + 1 }→wpAny (model X.prog X.w) X.A (f (.int i t)) Q E s) :
    UnR X f (rU fun i => .int (g i)):=by
  intro pins s σ H x v Q I rx h
  obtain ⟨i,rfl,q⟩:=h
  obtain ⟨t,rfl⟩:=rx
  exact rule i t s _ _ ⟨.int (g i),H,I.tok _,⟨_,rfl⟩,q⟩
theorem un_neg:UnR X (unaryOp .USub) (rU fun i => .int (-i)):=unI fun _ _ _ _ _ q=>neg_int q
end
def scal:V→V→Bool
  | .non, .non=>true | .non, .int _=>true | .int _, .non=>true | .non, .bl _=>true | .bl _, .non=>true | .non, .str _=>true | .str _, .non=>true
  | .int _, .int _=>true | .bl _, .bl _=>true | .str _, .str _=>true | .byt _, .byt _=>true
  | .int _, .str _=>true | .str _, .int _=>true | .bl _, .str _=>true | .str _, .bl _=>true
  | _,_=>false
def rEq:R2:=fun x y H Q=>scal x y=true∧Q (.bl (decide (x=y))) H
def rNe:R2:=fun x y H Q=>scal x y=true∧Q (.bl (!decide (x=y))) H
theorem dec_int {i j:Int}:decide (V.int i=V.int j)=(i == j):=by
  rw [Bool.eq_iff_iff]
  simp
theorem dec_bl {i j:Bool}:decide (V.bl i=V.bl j)=(i == j):=by
  rw [Bool.eq_iff_iff]
  simp
theorem dec_str {i j:Str}:decide (V.str i=V.str j)=(i == j):=by
  rw [Bool.eq_iff_iff]
  simp
theorem dec_byt {i j:Array UInt8}:decide (V.byt i=V.byt j)=(i.toList == j.toList):=by
  rw [Bool.eq_iff_iff]
  cases i
  cases j
  simp
section
variable {X:Cx} {a b c:Expr} {ta tb tc:TE} {pos:Pos}
theorem fin_bl {pins:List (Addr × Obj)} {σ:St} {H:Hp} {s:Shared} {Q:VK} {k k':Bool} (I:Inv X pins σ H s) (q:Q (.bl k) H) (e:k=k'):EP X pins σ Q (.bool k') s:=by
  subst e
  exact ⟨.bl k,H,I,rfl,q⟩
theorem op_eq:OpR X (compareOp .Eq) rEq:=by
  intro pins s σ H x y v u Q I rx ry h
  obtain ⟨hs,q⟩:=h
  cases x with
  | non =>
    cases rx
    cases y with
    | non=>cases ry; exact PySem.EqNone.eq_none_none (fin_bl I q (by simp))
    | bl j=>cases ry; exact PySem.EqNone.eq_none_bool (fin_bl I q (by simp))
    | int j=>obtain ⟨t',rfl⟩:=ry; exact PySem.EqNone.eq_none_int (fin_bl I q (by simp))
    | str j=>obtain ⟨t',rfl⟩:=ry; exact PySem.EqNone.eq_none_str (fin_bl I q (by simp))
    | _=>exact absurd (show false=true from hs) Bool.false_ne_true
  | bl i =>
    cases rx
    cases y with
    | non=>cases ry; exact PySem.EqNone.eq_bool_none (fin_bl I q (by simp))
    | bl j=>cases ry; exact eq_bool (fin_bl I q dec_bl)
    | str j=>obtain ⟨t',rfl⟩:=ry; exact PySem.EqMixed.eq_bool_str (fin_bl I q (by simp))
    | _=>exact absurd (show false=true from hs) Bool.false_ne_true
  | int i =>
    obtain ⟨t,rfl⟩:=rx
    cases y with
    | non=>cases ry; exact PySem.EqNone.eq_int_none (fin_bl I q (by simp))
    | int j=>obtain ⟨t',rfl⟩:=ry; exact eq_int (fin_bl I q dec_int)
    | str j=>obtain ⟨t',rfl⟩:=ry; exact PySem.EqMixed.eq_int_str (fin_bl I q (by simp))
    | _=>exact absurd (show false=true from hs) Bool.false_ne_true
  | str i =>
    obtain ⟨t,rfl⟩:=rx
    cases y with
    | non=>cases ry; exact PySem.EqNone.eq_str_none (fin_bl I q (by simp))
    | bl j=>cases ry; exact PySem.EqMixed.eq_str_bool (fin_bl I q (by simp))
    | int j=>obtain ⟨t',rfl⟩:=ry; exact PySem.EqMixed.eq_str_int (fin_bl I q (by simp))
    | str j=>obtain ⟨t',rfl⟩:=ry; exact eq_str (fin_bl I q dec_str)
    | _=>exact absurd (show false=true from hs) Bool.false_ne_true
  | byt i =>
    obtain ⟨t,rfl⟩:=rx
    cases y with
    | byt j=>obtain ⟨t',rfl⟩:=ry; exact PySem.W.eq_bytes (fin_bl I q dec_byt)
    | _=>exact absurd (show false=true from hs) Bool.false_ne_true
  | _=>cases y <;> exact absurd (show false=true from hs) Bool.false_ne_true
theorem op_ne:OpR X (compareOp .NotEq) rNe:=by
  intro pins s σ H x y v u Q I rx ry h
  obtain ⟨hs,q⟩:=h
  cases x with
  | non =>
    cases rx
    cases y with
    | non=>cases ry; exact PySem.EqNone.ne_none_none (fin_bl I q (by simp))
    | bl j=>cases ry; exact PySem.EqNone.ne_none_bool (fin_bl I q (by simp))
    | int j=>obtain ⟨t',rfl⟩:=ry; exact PySem.EqNone.ne_none_int (fin_bl I q (by simp))
    | str j=>obtain ⟨t',rfl⟩:=ry; exact PySem.EqNone.ne_none_str (fin_bl I q (by simp))
    | _=>exact absurd (show false=true from hs) Bool.false_ne_true
  | bl i =>
    cases rx
    cases y with
    | non=>cases ry; exact PySem.EqNone.ne_bool_none (fin_bl I q (by simp))
    | bl j=>cases ry; exact ne_bool (fin_bl I q (congrArg not dec_bl))
    | str j=>obtain ⟨t',rfl⟩:=ry; exact PySem.EqMixed.ne_bool_str (fin_bl I q (by simp))
    | _=>exact absurd (show false=true from hs) Bool.false_ne_true
  | int i =>
    obtain ⟨t,rfl⟩:=rx
    cases y with
    | non=>cases ry; exact PySem.EqNone.ne_int_none (fin_bl I q (by simp))
    | int j=>obtain ⟨t',rfl⟩:=ry; exact ne_int (fin_bl I q (congrArg not dec_int))
    | str j=>obtain ⟨t',rfl⟩:=ry; exact PySem.EqMixed.ne_int_str (fin_bl I q (by simp))
    | _=>exact absurd (show false=true from hs) Bool.false_ne_true
  | str i =>
    obtain ⟨t,rfl⟩:=rx
    cases y with
    | non=>cases ry; exact PySem.EqNone.ne_str_none (fin_bl I q (by simp))
    | bl j=>cases ry; exact PySem.EqMixed.ne_str_bool (fin_bl I q (by simp))
    | int j=>obtain ⟨t',rfl⟩:=ry; exact PySem.EqMixed.ne_str_int (fin_bl I q (by simp))
    | str j=>obtain ⟨t',rfl⟩:=ry; exact ne_str (fin_bl I q (congrArg not dec_str))
    | _=>exact absurd (show false=true from hs) Bool.false_ne_true
  | byt i =>
    obtain ⟨t,rfl⟩:=rx
    cases y with
    | byt j=>obtain ⟨t',rfl⟩:=ry; exact PySem.W.ne_bytes (fin_bl I q (congrArg not dec_byt))
    | _=>exact absurd (show false=true from hs) Bool.false_ne_true
  | _=>cases y <;> exact absurd (show false=true from hs) Bool.false_ne_true
theorem op_lt:OpR X (compareOp .Lt) (rI0 fun i j => .bl (decide (i < j))):=opB0 fun _ _ _ _ _ _ _ q=>lt_int q
theorem op_le:OpR X (compareOp .LtE) (rI0 fun i j => .bl (decide (i ≤ j))):=opB0 fun _ _ _ _ _ _ _ q=>le_int q
theorem op_gt:OpR X (compareOp .Gt) (rI0 fun i j => .bl (decide (j < i))):=opB0 fun _ _ _ _ _ _ _ q=>gt_int q
theorem nomark (b:Expr) {op:CmpOp} (h:op ≠ .In:=by decide) (h2:op ≠ .NotIn:=by decide):behindInMarks op b=false:=by
  have e1:(op == CmpOp.In)=false:=by cases op <;> first | rfl | exact absurd rfl h
  have e2:(op == CmpOp.NotIn)=false:=by cases op <;> first | rfl | exact absurd rfl h2
  cases b <;> simp [behindInMarks,e1,e2]
def tChain (r r':R2) (ta tb tc:TE):TE:=fun σ H Q=>ta σ H fun x H1=>tb σ H1 fun y H2=>r x y H2 fun z H3 => ∃ k,z = .bl k ∧
  (if k=true then tc σ H3 fun w' H4=>r' y w' H4 Q else Q (.bl false) H3)
theorem pe_chain {op op':CmpOp} {r r':R2} (ho:OpR X (compareOp op) r) (ho':OpR X (compareOp op') r') (ha:PE X a ta) (hb:PE X b tb) (hc:PE X c tc)
    (hm:lastMarks [op,op'] [b,c]=false:=by with_unfolding_all rfl):PE X (.Compare a [op,op'] [b,c] pos) (tChain r r' ta tb tc):=by
  intro pins s σ H Q I h
  refine Compare_chain (thn (ha pins s σ H _ I h) fun v s1 ⟨x,H1,I1,r1,q1⟩=>chain_link (thn (hb pins s1 σ H1 _ I1 q1) fun u s2 ⟨y,H2,I2,r2,q2⟩ =>
    thn (ho pins s2 σ H2 x y v u _ I2 r1 r2 q2) fun d s3 ⟨z,H3,I3,r3,k,e,q3⟩=>?_)) hm
  subst e
  cases r3
  refine wpAny_truthy_bool ?_
  cases k with
  | false=>exact ite_ff ⟨.bl false,H3,I3,rfl,q3⟩
  | true=>exact ite_tt (chain_last (thn (hc pins s3 σ H3 _ I3 q3) fun w' s4 ⟨z',H4,I4,r4,q4⟩=>ho' pins s4 σ H4 y z' u w' Q I4 r2 r4 q4))
def TruV (K:PySem.W.Frag) (x:V) (H:Hp) (k:Bool):Prop :=
  match x with
  | .non=>k=false
  | .bl b=>k=b
  | .int i=>k=(i != 0)
  | .str y=>y.length ≤ sizeLine∧k=((y.length:Int) != 0)
  | .byt y=>y.size ≤ sizeLine∧k=((y.size:Int) != 0)
  | .ref p=>(∃ xs,SqL K H p xs∧k = !xs.isEmpty) ∨ (∃ xs,SqT K H p xs∧k = !xs.isEmpty) ∨ ∃ kvs,H p=some (.dK kvs)∧k = !kvs.isEmpty
  | _=>False
theorem isEmpty_kv {κ:Type} {kvs:List (κ × V)} {vs:List (κ × Value)} (r:KV kvs vs):(!vs.isEmpty) = !kvs.isEmpty:=by
  cases r <;> rfl
theorem isEmpty_of {xs:List V} {its:List Value} (r:Vals xs its):(!its.toArray.isEmpty) = !xs.isEmpty:=by
  cases r <;> simp
theorem line63:(sizeLine:Nat) < 2 ^ 63:=by rw [sizeLine_eq]; decide
theorem tru_ok:TruR X (fun x H Q => ∃ k,TruV X.K x H k∧Q k H):=by
  intro pins s σ H x v Q I rx h
  obtain ⟨k,e,q⟩:=h
  have hl:=line63
  have hs:sizeLine=16777216:=sizeLine_eq
  cases x with
  | non =>
    cases rx
    have e':k=false:=e
    subst e'
    exact truthy_none ⟨H,I,q⟩
  | bl b =>
    cases rx
    have e':k=b:=e
    subst e'
    exact wpAny_truthy_bool ⟨H,I,q⟩
  | int i =>
    obtain ⟨t,rfl⟩:=rx
    have e':k=(i != 0):=e
    subst e'
    exact PySem.P.truthy_int ⟨H,I,q⟩
  | str y =>
    obtain ⟨t,rfl⟩:=rx
    obtain ⟨hy,e'⟩:y.length ≤ sizeLine∧k=((y.length:Int) != 0):=e
    subst e'
    exact PySem.P.truthy_str (by omega) ⟨H,I.tok _,q⟩
  | byt y =>
    obtain ⟨t,rfl⟩:=rx
    obtain ⟨hy,e'⟩:y.size ≤ sizeLine∧k=((y.size:Int) != 0):=e
    subst e'
    exact PySem.W.truthy_bytes (by omega) ⟨H,I.tok _,q⟩
  | ref p =>
    cases rx
    have e':(∃ xs,SqL X.K H p xs∧k = !xs.isEmpty) ∨ (∃ xs,SqT X.K H p xs∧k = !xs.isEmpty) ∨ ∃ kvs,H p=some (.dK kvs)∧k = !kvs.isEmpty:=e
    rcases e' with ⟨xs,hx,e'⟩ | ⟨xs,hx,e'⟩ | ⟨kvs,hx,e'⟩
    · subst e'
      obtain ⟨its,r,pl,hz⟩:=I.list hx
      have hlen:=r.length
      exact wpAny_truthy_list pl.isList (by simp only [List.size_toArray]; omega) ⟨H,I.tok _,by rw [isEmpty_of r]; exact q⟩
    · subst e'
      obtain ⟨its,r,pl,hz⟩:=I.tuple hx
      have hlen:=r.length
      exact truthy_tuple pl (by simp only [List.size_toArray]; omega) ⟨H,I.tok _,by rw [isEmpty_of r]; exact q⟩
    · subst e'
      obtain ⟨hz,hS,vs,r,m⟩:kvs.length ≤ sizeLine∧(p == sysModules)=false∧∃ vs,KV kvs vs∧s.heap.DictOf (mixKind X.prog X.w) p vs:=I.hok p _ hx
      have hlen:kvs.length=vs.length:=Paired.length r
      exact wpAny_truthy_dict hS m (by omega) ⟨H,I.tok _,by rw [isEmpty_kv r]; exact q⟩
  | _=>exact (show False from e).elim
theorem pt_truth (ha:PE X a ta) (he:∀ whole,isTrue a X.env whole=(do let v ← whole; standAt a.pos; holding [v] (truthy v))) :
    PT X a (fun σ H Q=>ta σ H fun x H' => ∃ k,TruV X.K x H' k∧Q k H'):=by
  intro pins s σ H Q I h
  exact isTrue_plain (thn (ha pins s σ H _ I h) fun v s1 ⟨x,H1,I1,r1,q1⟩=>tru_ok pins s1 σ H1 x v Q I1 r1 q1) (he _)
theorem vals1 {x:V} {us:List Value} (r:Vals [x] us):∃ u,us=[u]∧RelV x u:=by
  cases r with
  | cons r1 r2=>cases r2; exact ⟨_,rfl,r1⟩
theorem vals2 {x y:V} {us:List Value} (r:Vals [x,y] us):∃ u w',us=[u,w']∧RelV x u∧RelV y w':=by
  cases r with
  | cons r1 r2 =>
    cases r2 with
    | cons r3 r4=>cases r4; exact ⟨_,_,rfl,r1,r3⟩
theorem call_max2 (hc:X.calm=true):CallR X (.builtin "max") (fun xs H Q => ∃ i j,xs=[.int i, .int j]∧Q (.int (if j > i then j else i)) H):=by
  intro pins s σ H xs us Q I r h
  obtain ⟨i,j,rfl,q⟩:=h
  obtain ⟨u,w',rfl,⟨t,rfl⟩,⟨t',rfl⟩⟩:=vals2 r
  refine max_two_ints (I.ok.hd hc) fun h' tk k=>⟨_,H,I.kept k,?_,q⟩
  by_cases hj:j > i
  · rw [if_pos hj,if_pos hj]; exact ⟨_,rfl⟩
  · rw [if_neg hj,if_neg hj]; exact ⟨_,rfl⟩
theorem call_min2 (hc:X.calm=true):CallR X (.builtin "min") (fun xs H Q => ∃ i j,xs=[.int i, .int j]∧Q (.int (if j < i then j else i)) H):=by
  intro pins s σ H xs us Q I r h
  obtain ⟨i,j,rfl,q⟩:=h
  obtain ⟨u,w',rfl,⟨t,rfl⟩,⟨t',rfl⟩⟩:=vals2 r
  refine min_two_ints (I.ok.hd hc) fun h' tk k=>⟨_,H,I.kept k,?_,q⟩
  by_cases hj:j < i
  · rw [if_pos hj,if_pos hj]; exact ⟨_,rfl⟩
  · rw [if_neg hj,if_neg hj]; exact ⟨_,rfl⟩
end
end L2
namespace L2
open PySem PySem.Spec PyProof.Rows
structure ObjM (h:Heap) (x dx C:Addr) (mA:Str→Option Value):Prop where
  obj:h.get? x=some (PySem.W.instObj C dx)
  ns:h.Ns1 dx mA
  ne:dx ≠ x
theorem lookIn_ns {h:Heap} {dx:Addr} {mA:Str→Option Value} (n:h.Ns1 dx mA):∃ od,h.get? dx=some od∧∀ name,PySem.W.lookIn name od=some (mA name):=by
  obtain ⟨o,es,ep,ho,hd,hk,_,hm⟩:=n
  refine ⟨o,ho,fun name=>?_⟩
  have e:=hm name
  unfold nsFind findBy at e
  rw [← Array.find?_toList] at e
  unfold PySem.W.lookIn
  rw [hd]
  dsimp only
  split
  · rename_i y q
    rw [q] at e
    exact congrArg some e
  · rename_i q
    rw [q] at e
    have a:es.toList.any (·.refKey)=false:=by
      rw [List.any_eq_false]
      intro y hy
      obtain ⟨z,t,hkey⟩:=hk y (Array.mem_toList_iff.mp hy)
      simp [DictEntry.refKey,hkey]
    have a' : ¬ es.toList.any (·.refKey)=true:=by rw [a]; exact Bool.false_ne_true
    rw [if_neg a']
    exact congrArg some e
theorem ObjM.look {h:Heap} {x dx C:Addr} {mA:Str→Option Value} (I:ObjM h x dx C mA):∃ od,PySem.W.InstAt h x (PySem.W.instObj C dx) C (some od)∧∀ name,PySem.W.lookIn name od=some (mA name) :=
  let ⟨od,ho,hl⟩:=lookIn_ns I.ns
  ⟨od,⟨I.obj,rfl,rfl,ho⟩,hl⟩
section
variable {prog:Program} {w:World} {A:Around} {E:Value→Shared→Prop} {s:Shared} {K:PySem.W.Frag} {x dx C f:Addr} {mA:Str→Option Value} {name:Str} {v:Value}
theorem get_map {expr:Bool} {Q:Value→Shared→Prop} (X:K.In s.heap) (I:ObjM s.heap x dx C mA) (hg:PySem.W.plainGet K C name=true) (hh:PySem.W.hasDictIn K C=true)
    (ha:PySem.W.findIn K (.ref C) name=some none) (hv:mA name=some v) (hv':PySem.W.handedIn v=true) (h:Q v { s with toks:=s.toks + 1 }) :
    wpAny (model prog w) A (getAttr (.ref x) name expr) Q E s:=by
  obtain ⟨od,J,hl⟩:=I.look
  exact PySem.W.get_value X J (PySem.W.plainGet_of hg).1 (PySem.W.findObj_own hh ha rfl (by rw [hl,hv])) hv' h
end
structure Cls (K:PySem.W.Frag) (C:Addr):Prop where
  pg:PySem.W.plainGet K C Str.empty=true
  hd:PySem.W.hasDictIn K C=true
  po:PySem.W.plainOver K C=true
  sa:PySem.W.findIn K (.ref C) "__setattr__"=some (some (.builtin "object.__setattr__"))
structure Con (K:PySem.W.Frag) (C:Addr) (f:Str) (v:V) (u:Value):Prop where
  at_:PySem.W.findIn K (.ref C) f=some (some u)
  rel:RelV v u
  get:PySem.W.specialIn K u "__get__"=some none
  cp:PySem.W.copiedNames.contains f=false
structure Meth (K:PySem.W.Frag) (C:Addr) (m:Str) (f:Addr):Prop where
  at_:PySem.W.findIn K (.ref C) m=some (some (.ref f))
  fn:PySem.W.isFn K (.ref f)=true
  kp:PySem.W.keepIn K (.ref f)=true
section
variable {X:Cx} {pins:List (Addr × Obj)} {σ:St} {H:Hp} {s:Shared} {A:Around} {E:Value→Shared→Prop} {Q:Value→Shared→Prop} {c:Value} {b:Bool}
inductive TyOf (K:PySem.W.Frag) (H:Hp):V→Value→Prop where
  | non:TyOf K H .non (.type "NoneType")
  | bl (x:Bool):TyOf K H (.bl x) (.type "bool")
  | int (i:Int):TyOf K H (.int i) (.type "int")
  | str (x:Str):TyOf K H (.str x) (.type "str")
  | flt (x:UInt64):TyOf K H (.flt x) (.type "float")
  | lst {a:Addr} {xs:List V} (e:H a=some (.lst xs)):TyOf K H (.ref a) (.type "list")
  | frz {a:Addr} {o:Obj} {xs:List V} (e:H a=some (.frz o (.lst xs))):TyOf K H (.ref a) (.type "list")
  | tup {a:Addr} {xs:List V} (e:H a=some (.tup xs)):TyOf K H (.ref a) (.type "tuple")
  | dK {a:Addr} {kvs:List (Key × V)} (e:H a=some (.dK kvs)):TyOf K H (.ref a) (.type "dict")
  | dT {a:Addr} {kvs:List (List Key × V)} (e:H a=some (.dT kvs)):TyOf K H (.ref a) (.type "dict")
  | ins {a C dx:Addr} {fs:List (Str × V)} (e:H a=some (.ins C dx fs)) (cl:Cls K C) (ha:PySem.W.findIn K (.ref C) "__class__"=some (some (.builtin "object.__class__")))
      (hn:PySem.W.specialIn K (.builtin "object.__class__") "__get__"=some (some (.builtin "getset_descriptor.__get__"))) (htk:PySem.W.takesIn K (.builtin "object.__class__")=some true)
      (hm:PySem.W.mroIn K C (.type "object")=some true):TyOf K H (.ref a) (.ref C)
end
end L2
namespace L2
open PySem PySem.Spec PyProof.Rows
structure Room (k:Nat) (A:Around):Prop where
  hd:A.handled=none
  dp:A.depth + 3 * k + 5 < recursionLimit
  un:A.units + 16 * k + 200 < cLine
theorem Room.mono {j k:Nat} {A:Around} (r:Room k A) (h:j ≤ k):Room j A:=⟨r.hd,by have:=r.dp; omega,by have:=r.un; omega⟩
theorem Room.deeper {k:Nat} {A:Around} (r:Room (k + 1) A) (env:Env):Room k (A.deeper env) :=
  ⟨r.hd,by have:=r.dp; show A.depth + 1 + 3 * k + 5 < _; omega,by have:=r.un; show A.units + 3 + 16 * k + 200 < _; omega⟩
theorem Room.depth {k:Nat} {A:Around} (r:Room k A):A.depth < recursionLimit:=by have:=r.dp; omega
theorem Room.units {k:Nat} {A:Around} (r:Room k A):A.units + 64 < cLine:=by have:=r.un; omega
def tNil:TA:=fun _ H Q=>Q [] H
def tCons (ta:TE) (tr:TA):TA:=fun σ H Q=>ta σ H fun x H1=>tr σ H1 fun xs H2=>Q (x :: xs) H2
section
variable {X:Cx} {e:Expr} {es:List Expr} {te:TE} {t:TA} {pos:Pos}
theorem pa_nil:PA X [] tNil:=fun _ _ _ _ H Q I h=>Calls.spliced_nil ⟨[],H,I, .nil,h⟩
theorem pa_cons (ha:PE X e te) (hr:PA X es t) (hs:starEach (e :: es) X.env=(false,eval e X.env) :: starEach es X.env:=by rfl):PA X (e :: es) (tCons te t):=by
  intro pos pins s σ H Q I h
  rw [hs]
  show wpAny _ _ (spliced ((false,eval e X.env) :: backTo pos (starEach es X.env))) _ _ s
  refine Calls.spliced_cons (thn (ha pins s σ H _ I h) fun u s1 ⟨x,H1,I1,r1,q1⟩=>?_)
  exact thn (hr pos pins s1 σ H1 _ I1 q1) fun us s2 ⟨xs,H2,I2,r2,q2⟩=>⟨x :: xs,H2,I2, .cons r1 r2,q2⟩
def tLst (t:TA):TE:=fun σ H Q=>t σ H fun xs H1=>xs.length ≤ sizeLine∧∀ p,H1 p=none→Q (.ref p) (upd H1 p (.lst xs))
theorem pe_lst (h:PA X es t):PE X (.List es pos) (tLst t):=by
  intro pins s σ H Q I hq
  refine wpAny_List_spliced (thn (h pos pins s σ H _ I hq) fun us s1 ⟨xs,H1,I1,r,z,q⟩=>⟨by rw [← r.length]; exact z,?_⟩)
  have hf:H1 s1.heap.objs.size=none:=I1.hok.fresh (Nat.le_refl _)
  refine ⟨.ref s1.heap.objs.size,upd H1 s1.heap.objs.size (.lst xs),I1.laid (t':=s1.toks) (fun b u e=>Heap.get?_push_of_some _ e) (Nat.le_refl _) ?_,rfl,q _ hf⟩
  exact ⟨z,us,0,r,Heap.get?_push_size _ rfl⟩
end
abbrev Sp:=List V→Hp→VK→XK→Prop
abbrev CXT:=List Env→Hp→Shared→XK→Value→Shared→Prop
structure Env0 (P:Program) (w:World) (K:PySem.W.Frag) (mg:Str→Option Value) (base:BHeap) (A:Around) (outer:List Env) (s:Shared) (H:Hp):Prop where
  frames:A.frames=some outer
  mod:Mod K mg base
  bs:∀ b o,base.get? b=some o→s.heap.get? b=some o∧H b=none
  bsz:base.objs.size ≤ s.heap.objs.size
  funs:s.heap.FunFrames base outer
  frf:∀ b ∈ frs outer,H b=none
  hok:HOk P w H s.heap
  bare:AllBare s.gens
  tabs:∀ p ∈ base.tabs,H p.1=some (.tbl p.2)
def CE (outer:List Env) (P:Program) (w:World) (H:Hp) (s:Shared) (Q:VK) (u:Value) (s':Shared):Prop :=
  ∃ v H',s'.os=s.os∧AllBare s'.gens∧Un (frs outer) [] H H' s.heap s'.heap∧HOk P w H' s'.heap∧RelV v u∧Q v H'
def CR (CX:CXT) (outer:List Env) (P:Program) (w:World) (H:Hp) (s:Shared) (Q:VK) (E:XK) (r:Result) (s':Shared):Prop :=
  match r with
  | .ok (.ret u)=>CE outer P w H s Q u s'
  | .ok _=>False
  | .error e=>CX outer H s E e s'
structure FnOk (P:Program) (w:World) (K:PySem.W.Frag) (mg:Str→Option Value) (base:BHeap) (CX:CXT) (k:Nat) (f:Addr) (fd:FuncData) (ps:List Str) (sp:Sp):Prop where
  len:∀ vs H Q E,sp vs H Q E→vs.length=ps.length
  run:∀ (A:Around) (outer:List Env) (s:Shared) (H:Hp) (args:Args) (us:List Value) (vs:List V) (Q:VK) (E:XK),Room k A→Env0 P w K mg base A outer s H→BindsTo s fd args (ps.zip us)→Vals vs us→sp vs H Q E →
    codeAny (model P w) A (.call (.ref f) args) (CR CX outer P w H s Q E) s
section
variable {X:Cx} {pins:List (Addr × Obj)} {σ:St} {H:Hp} {s s':Shared}
theorem Inv.env0 (I:Inv X pins σ H s):Env0 X.prog X.w X.K X.mg X.base X.A X.stack s H :=
  ⟨I.ok.frames,I.ok.mod,I.bs,Nat.le_trans I.ok.bsz I.sz,I.stack,I.stkFree,I.hok,I.bare,fun p hp=>I.base.tbls _ _ (I.ok.tabs p hp)⟩
theorem Inv.after {Q:VK} {u:Value} (I:Inv X pins σ H s) (h:CE X.stack X.prog X.w H s Q u s'):EP X pins σ Q u s':=by
  obtain ⟨v,H',os,bare,un,hok,r,q⟩:=h
  obtain ⟨hh,g,d,t,os'⟩:=s'
  obtain rfl:os'=s.os:=os
  exact ⟨v,H',I.call (h':=hh) (g':=g) (d':=d) (t':=t) (ch:=[]) un hok bare (fun b z=>absurd z (by simp)),r,q⟩
end
def tCall (sp:Sp) (dvs:List V) (E:XK) (t:TA):TE:=fun σ H Q=>t σ H fun vs H1=>sp (vs ++ dvs) H1 Q E
def Binds (K:PySem.W.Frag) (fd:FuncData) (ps:List Str) (ds:List Value):Prop :=
  ∀ (s:Shared) (us:List Value),K.In s.heap→(us ++ ds).length=ps.length→BindsTo s fd ⟨us,[]⟩ (ps.zip (us ++ ds))
theorem Binds.all {K:PySem.W.Frag} {fd:FuncData} {ps:List Str} (h:∀ us:List Value,us.length=ps.length→bindArgs fd ⟨us,[]⟩=pure (ps.zip us)):Binds K fd ps []:=fun s us _ hl=>by
  rw [List.append_nil] at hl ⊢
  exact .of_eq (h us hl)
def Passes (CX:CXT) (X:Cx) (E:XK):Prop := ∀ (pins:List (Addr × Obj)) (σ:St) (H:Hp) (s:Shared) (e:Value) (s':Shared),Inv X pins σ H s→CX X.stack H s E e s'→X.xe e s'
section
variable {X:Cx} {CX:CXT} {k:Nat} {f C:Addr} {fd:FuncData} {ps:List Str} {sp:Sp} {dvs:List V} {ds:List Value} {E:XK} {x m:Str} {p pos apos:Pos} {e o:Expr} {es:List Expr} {ta:TE} {t:TA}
theorem run_fn {pins:List (Addr × Obj)} {σ:St} {H:Hp} {s:Shared} {Q:VK} {us:List Value} {vs:List V} (F:FnOk X.prog X.w X.K X.mg X.base CX k f fd ps sp) (hr:Room k X.A) (hb:Binds X.K fd ps ds) (hd:Vals dvs ds) (hx:Passes CX X E)
    (I:Inv X pins σ H s) (r:Vals vs us) (h:sp (vs ++ dvs) H Q E):wpAny (model X.prog X.w) X.A (call (.ref f) us) (EP X pins σ Q) X.xe s:=by
  have r2:Vals (vs ++ dvs) (us ++ ds):=r.append hd
  have hl:(us ++ ds).length=ps.length:=by rw [← r2.length]; exact F.len _ _ _ _ h
  refine wpAny_call (codeAny_mono (F.run X.A X.stack s H ⟨us,[]⟩ (us ++ ds) (vs ++ dvs) Q E hr I.env0 (hb s us I.kIn hl) r2 h) fun r s' hq=>?_)
  cases r with
  | error e=>exact hx pins σ H s e s' I hq
  | ok fl =>
    cases fl with
    | ret u=>exact I.after hq
    | next=>exact False.elim hq
    | brk=>exact False.elim hq
    | cont=>exact False.elim hq
theorem pe_call (F:FnOk X.prog X.w X.K X.mg X.base CX k f fd ps sp) (hr:Room k X.A) (hg:Gl X x) (hm:X.mg x=some (.ref f)) (hk:PySem.W.keepIn X.K (.ref f)=true) (hb:Binds X.K fd ps ds) (hd:Vals dvs ds) (hx:Passes CX X E)
    (ha:PA X (e :: es) t) (hdb:(x == ("__debug__":Str))=false:=by decide) (he:starEach (e :: es) X.env=(false,eval e X.env) :: starEach es X.env:=by rfl) (hpl:(backTo pos (starEach es X.env)).any (·.1)=false:=by rfl) :
    PE X (.Call (.Name x p) (e :: es) [] pos) (tCall sp dvs E t):=by
  intro pins s σ H Q I h
  refine wpAny_Call_Name_kw (ld_glob I hg hm ?_ hdb)
  refine PySem.W.callWith_K (h₀:=X.base) I.ok.mod.kin hk (thn (ha pos pins s σ H _ I h) fun us s1 ⟨vs,H1,I1,r,q⟩=>⟨I1.kIn,?_⟩) he hpl
  exact run_fn F hr hb hd hx I1 r q
structure Mk (K:PySem.W.Frag) (C f:Addr):Prop where
  makes:PySem.W.makesIn K C=true
  init:PySem.W.findIn K (.ref C) "__init__"=some (some (.ref f))
  fn:PySem.W.isFn K (.ref f)=true
  kp:PySem.W.keepIn K (.ref C)=true
end
section
variable {X:Cx} {CX:CXT} {k:Nat} {f C:Addr} {fd:FuncData} {ps ks:List Str} {sp:Sp} {E:XK} {x m:Str} {p pos apos kpos:Pos} {e o:Expr} {es:List Expr} {kws:List Keyword} {te ta:TE} {t tk:TA} {nm:Option Str}
structure KBinds (K:PySem.W.Frag) (fd:FuncData) (ps ks:List Str) (g:List Value→List Value→List Value) (gV:List V→List V→List V):Prop where
  to:∀ (s:Shared) (us ws:List Value),K.In s.heap→(g us ws).length=ps.length→BindsTo s fd ⟨us,ks.zip ws⟩ (ps.zip (g us ws))
  rel:∀ {vs:List V} {us:List Value} {zs:List V} {ws:List Value},Vals vs us→Vals zs ws→Vals (gV vs zs) (g us ws)
variable {g:List Value→List Value→List Value} {gV:List V→List V→List V}
end
structure FnScope (N P:List Str) (sc:Scope):Prop where
  kind:sc.kind = .function
  co:sc.isCoroutine=false
  gen:sc.isGenerator=false
  nd:N.Nodup
  pre:N.take P.length=P
  par:∀ x ∈ P,sc.names.lookup x=some .local ∨ sc.names.lookup x=some .cell
  nofree:∀ y ∈ sc.names,y.2 ≠ .free
theorem bindL_out {kindOf:Str→Option NameKind} {x:Str}:∀ {binds:List (Str × Value)} {m:Str→Option Value},(∀ v,(x,v) ∉ binds)→bindL kindOf binds m x=m x
  | [],_,_=>rfl
  | (n,v) :: r,m,h=>by
    unfold bindL
    rw [bindL_out fun w hw=>h w (List.mem_cons_of_mem _ hw)]
    split
    · have:x ≠ n:=by rintro rfl; exact h v List.mem_cons_self
      simp [this]
    · rfl
theorem bindC_out {kindOf:Str→Option NameKind} {x:Str}:∀ {binds:List (Str × Value)} {m:Str→Option Value},(∀ v,(x,v) ∉ binds)→bindC kindOf binds m x=m x
  | [],_,_=>rfl
  | (n,v) :: r,m,h=>by
    unfold bindC
    rw [bindC_out fun w hw=>h w (List.mem_cons_of_mem _ hw)]
    split
    · rfl
    · have:x ≠ n:=by rintro rfl; exact h v List.mem_cons_self
      simp [this]
theorem bindL_get {kindOf:Str→Option NameKind} {x:Str} {v:Value}:∀ {P:List Str} {vs:List Value} {i:Nat} {m:Str→Option Value},P.Nodup→P[i]?=some x→vs[i]?=some v→kindOf x=some .local →
    bindL kindOf (P.zip vs) m x=some v
  | [],_,_,_,_,h,_,_=>by simp at h
  | _ :: _,[],_,_,_,_,h,_=>by simp at h
  | p :: P,w :: vs,0,m,nd,h1,h2,hk=>by
    simp at h1 h2; subst h1; subst h2
    show bindL kindOf ((p,w) :: P.zip vs) m p=_
    unfold bindL
    rw [bindL_out fun v hv=>(List.nodup_cons.mp nd).1 (List.of_mem_zip hv).1,if_pos hk]
    simp
  | p :: P,w :: vs,i + 1,m,nd,h1,h2,hk=>by
    show bindL kindOf ((p,w) :: P.zip vs) m x=_
    unfold bindL
    exact bindL_get (i:=i) (List.nodup_cons.mp nd).2 (by simpa using h1) (by simpa using h2) hk
theorem bindC_get {kindOf:Str→Option NameKind} {x:Str} {v:Value}:∀ {P:List Str} {vs:List Value} {i:Nat} {m:Str→Option Value},P.Nodup→P[i]?=some x→vs[i]?=some v→kindOf x ≠ some .local →
    bindC kindOf (P.zip vs) m x=some v
  | [],_,_,_,_,h,_,_=>by simp at h
  | _ :: _,[],_,_,_,_,h,_=>by simp at h
  | p :: P,w :: vs,0,m,nd,h1,h2,hk=>by
    simp at h1 h2; subst h1; subst h2
    show bindC kindOf ((p,w) :: P.zip vs) m p=_
    unfold bindC
    rw [bindC_out fun v hv=>(List.nodup_cons.mp nd).1 (List.of_mem_zip hv).1,if_neg hk]
    simp
  | p :: P,w :: vs,i + 1,m,nd,h1,h2,hk=>by
    show bindC kindOf ((p,w) :: P.zip vs) m x=_
    unfold bindC
    exact bindC_get (i:=i) (List.nodup_cons.mp nd).2 (by simpa using h1) (by simpa using h2) hk
def start (N:List Str) (vs:List V):St:=vs.map some ++ List.replicate (N.length - vs.length) none
def cxOf (CX:CXT) (P:Program) (w:World) (K:PySem.W.Frag) (mg:Str→Option Value) (base:BHeap) (N:List Str) (qual:Str) (scope:Scope) (f:Addr) (cd:Value) (A:Around) (outer:List Env) (s:Shared) (H:Hp) (E:XK):Cx where
  prog:=P
  w:=w
  K:=K
  mg:=mg
  base:=base
  A:=A.deeper (envOfC qual scope s.heap.objs.size f cd)
  N:=N
  s₀:=s
  H₀:=H
  env:=envOfC qual scope s.heap.objs.size f cd
  outer:=outer
  stack:=envOfC qual scope s.heap.objs.size f cd :: outer
  ex:=[]
  calm:=true
  fn:=fun _=>true
  pn:=[]
  xe:=fun e s'=>wpAny (model P w) (A.deeper (envOfC qual scope s.heap.objs.size f cd)) (leaving (envOfC qual scope s.heap.objs.size f cd) e) (fun _ s''=>CX outer H s E e s'') (fun e' s''=>CX outer H s E e' s'') s'
theorem cell_has {sc:Scope} {n:Nat} {x:Str} (h:sc.names.lookup x=some .cell):∃ c,(cellsFrom n sc.names []).lookup x=some c:=by
  have q:=PySem.W.cellsFrom_some sc.names n [] (.inl h)
  exact Option.isSome_iff_exists.mp q
theorem inv_start {CX:CXT} {P:Program} {w:World} {K:PySem.W.Frag} {mg:Str→Option Value} {base:BHeap} {N ps:List Str} {qual:Str} {scope:Scope} {f:Addr} {cd:Value} {A:Around} {outer:List Env} {s s1:Shared} {H:Hp} {E:XK} {us:List Value} {vs:List V}
    (S:FnScope N ps scope) (hd:A.handled=none) (e0:Env0 P w K mg base A outer s H) (hl:vs.length=ps.length) (r:Vals vs us)
    (x:InCallC s s.heap.objs.size (bindL (envOfC qual scope s.heap.objs.size f cd).kindOf (ps.zip us) fun _=>none) (cellsFrom (s.heap.objs.size + 1) scope.names []) (bindC (envOfC qual scope s.heap.objs.size f cd).kindOf (ps.zip us) fun _=>none) s1) :
    Inv (cxOf CX P w K mg base N qual scope f cd A outer s H E) [] (start N vs) H s1:=by
  have hpl:ps.length ≤ N.length:=by have:=congrArg List.length S.pre; rw [List.length_take] at this; omega
  obtain ⟨h1,tk,rfl,hk⟩:=x.done
  have noA:∀ b:Addr,b ∉ (cxOf CX P w K mg base N qual scope f cd A outer s H E).ex:=fun b z=>absurd (show b ∈ ([]:List Addr) from z) (by simp)
  refine ⟨⟨e0.mod,S.kind,rfl,rfl,Nat.le_refl _,fun y z c h1 h2=>?_,fun y hy=>?_,fun y c _ h=>?_,fun _=>hd,Around.frames_deeper e0.frames, .inr ⟨rfl,rfl⟩,fun b z=>absurd z (noA b),e0.bs,e0.bsz,fun b _ _=>noA b,fun b z=>absurd z (noA b),e0.funs,e0.frf,e0.tabs⟩,
    rfl,e0.bare,Un.kept hk,⟨_,x.toInCall.ns,fun i y v h1 h2 h3=>?_⟩,fun y c h=>⟨_,x.cell y c h⟩,e0.hok.fresh (Nat.le_refl _),fun y c h=>?_,fun p hp=>absurd (show p ∈ ([]:List (Addr × Obj)) from hp) (by simp),e0.hok.kept hk,?_⟩
  · exact name_of_addr x.apart (PySem.mem_of_lookup h1) (PySem.mem_of_lookup h2)
  · have hy:scope.names.lookup y=some .cell ∨ scope.names.lookup y=some .free:=hy
    rcases hy with hy | hy
    · exact cell_has hy
    · exact absurd rfl (S.nofree _ (PySem.mem_of_lookup hy))
  · exact Nat.le_of_lt (x.above y c (PySem.mem_of_lookup h))
  · have hi:i < vs.length:=by
      unfold start at h2
      by_cases hi:i < vs.length
      · exact hi
      · rw [List.getElem?_append_right (by simpa using hi)] at h2
        rw [List.getElem?_replicate] at h2
        split at h2 <;> cases h2
    have ha:vs[i]?=some v:=by
      unfold start at h2
      rw [List.getElem?_append_left (by simpa using hi),List.getElem?_map] at h2
      cases e:vs[i]? with
      | none=>rw [e] at h2; cases h2
      | some a=>rw [e] at h2; cases h2; rfl
    obtain ⟨u,hu,rv⟩:=r.get ha
    have hp:ps[i]?=some y:=by
      rw [← S.pre,List.getElem?_take_of_lt (by omega)]; exact h1
    have ndP:ps.Nodup:=by rw [← S.pre]; exact S.nd.sublist (List.take_sublist _ _)
    refine ⟨u,rv,?_⟩
    rcases S.par y (List.mem_of_getElem? hp) with k | k
    · exact .inl ⟨k,bindL_get ndP hp hu k⟩
    · obtain ⟨c,e⟩:=cell_has (n:=s.heap.objs.size + 1) k
      refine .inr ⟨.inl k,c,e,?_⟩
      have q:=x.cell y c e
      rw [bindC_get ndP hp hu (by show scope.names.lookup y ≠ _; rw [k]; decide)] at q
      exact q
  · exact e0.hok.fresh (Nat.le_of_lt (x.above y c (PySem.mem_of_lookup h)))
  · unfold start
    show _=N.length
    rw [List.length_append,List.length_map,List.length_replicate]
    omega
theorem fn_of {CX:CXT} {P:Program} {w:World} {K:PySem.W.Frag} {mg:Str→Option Value} {base:BHeap} {k:Nat} {f:Addr} {name qual:Str} {params:Arguments} {body:List Stmt} {scope:Scope} {dV kV doc pm cdv ct oc:Value} {an od:Option Addr}
    {osl:Array (Option Value)} {N ps:List Str} {sp:Sp} (lk:K.lookup f=some ⟨oc,od, .func (PySem.W.fnOf name qual params body scope dV kV doc pm an cdv ct),osl⟩) (hcd:PySem.W.codeIn K cdv qual=true) (S:FnScope N ps scope)
    (len:∀ vs H Q E,sp vs H Q E→vs.length=ps.length)
    (hbody:∀ (A:Around) (outer:List Env) (s:Shared) (H:Hp) (vs:List V) (Q:VK) (E:XK),Room k (A.deeper (envOfC qual scope s.heap.objs.size f cdv))→sp vs H Q E →
      ∃ t,PSs (cxOf CX P w K mg base N qual scope f cdv A outer s H E) body t∧t { nx:=fun _ H'=>Q .non H',rt:=Q } (start N vs) H) :
    FnOk P w K mg base CX (k + 1) f (PySem.W.fnOf name qual params body scope dV kV doc pm an cdv ct) ps sp:=by
  refine ⟨len,fun A outer s H args us vs Q E hr e0 hb r hsp=>?_⟩
  have hl:=len _ _ _ _ hsp
  have KX:K.In s.heap:=e0.mod.kin.keeps fun b o e=>(e0.bs b o e).1
  have lim:s.heap.NoLimit:=e0.mod.nolimit.keeps fun b o e=>(e0.bs b o e).1
  have hkind:∀ y ∈ ps.zip us,scope.names.lookup y.1=some .local ∨ (scope.names.lookup y.1=some .cell∧((cellsFrom (s.heap.objs.size + 1) scope.names []).lookup y.1).isSome=true):=fun ⟨n,v⟩ hy=>by
    rcases S.par n (List.of_mem_zip hy).1 with q | q
    · exact .inl q
    · exact .inr ⟨q,PySem.W.cellsFrom_some _ _ _ (.inl q)⟩
  refine codeAny_call_function hr.depth (KX _ _ lk) rfl S.co S.gen rfl (PySem.W.codeRec_of KX hcd) (hb _ _ _ _ ?_)
  refine wpAny_newFunctionEnv_cells S.kind hkind fun env he s1 x=>?_
  subst he
  refine ⟨lim.keeps x.toInCall.keep,codeAny_func ?_⟩
  obtain ⟨t,ht,hq⟩:=hbody A outer s H vs Q E (hr.deeper _) hsp
  have I:Inv (cxOf CX P w K mg base N qual scope f cdv A outer s H E) [] (start N vs) H s1:=inv_start S hr.hd e0 hl r x
  refine wpAny_mono (ht [] s1 (start N vs) H _ I hq) (fun fl s' hs=>?_) fun e s' hs=>hs
  have fin:∀ {σ':St} {H':Hp} {v:V} {u:Value},Inv (cxOf CX P w K mg base N qual scope f cdv A outer s H E) [] σ' H' s'→RelV v u→Q v H'→CE outer P w H s Q u s' :=
    fun {σ' H' v u} J rv q=>⟨v,H',J.os,J.bare,J.base,J.hok,rv,q⟩
  cases fl with
  | ret u =>
    obtain ⟨v,σ',H',J,rv,q⟩:=hs
    exact fin J rv q
  | next =>
    obtain ⟨σ',H',J,q⟩:=hs
    exact fin (v:=V.non) (u:=Value.none) J rfl q
  | brk =>
    obtain ⟨_,_,_,q⟩:=hs
    exact False.elim q
  | cont =>
    obtain ⟨_,_,_,q⟩:=hs
    exact False.elim q
end L2
namespace L2
open PySem PySem.Spec PyProof.Rows
section
variable {X:Cx} {x:Str} {p pos:Pos} {e:Expr} {es:List Expr} {t:TA} {id T:String} {r:List V→Hp→VK→Prop}
def tCB (r:List V→Hp→VK→Prop) (t:TA):TE:=fun σ H Q=>t σ H fun vs H1=>r vs H1 Q
theorem pe_callB (hc:CallR X (.builtin id) r) (hg:Gl X x) (hm:X.mg x=none) (hv:bootBuiltins x=some (.builtin id)) (ha:PA X (e :: es) t) (hn:x ≠ "__name__":=by decide) (hdb:(x == ("__debug__":Str))=false:=by decide)
    (he:starEach (e :: es) X.env=(false,eval e X.env) :: starEach es X.env:=by rfl) (hpl:(backTo pos (starEach es X.env)).any (·.1)=false:=by rfl):PE X (.Call (.Name x p) (e :: es) [] pos) (tCB r t):=by
  intro pins s σ H Q I h
  refine wpAny_Call_Name_kw (ld_blt I hg hm hv ?_ hn hdb)
  exact PyProof.Rows.callWith_builtin1 (thn (ha pos pins s σ H _ I h) fun us s1 ⟨vs,H1,I1,r1,q1⟩=>hc pins s1 σ H1 vs us Q I1 r1 q1) he hpl
end
end L2
namespace L2
open PySem PySem.Spec PyProof.Rows
abbrev TO:=St→Hp→(Option Int→Hp→Prop)→Prop
theorem intsAre_of {ns:List Int}:∀ {us:List Value},Vals (ns.map V.int) us→IntsAre us ns:=by
  induction ns with
  | nil=>intro us r; rw [List.map_nil] at r; cases r; exact .nil
  | cons n ns ih =>
    intro us r
    rw [List.map_cons] at r
    cases r with
    | cons r1 r2 =>
      obtain ⟨t,e⟩:=r1
      subst e
      exact .cons n t (ih r2)
def ixN (n:Nat) (i:Int):Option Nat:=if 0 ≤ i then (if i < n then some i.toNat else none) else if -(n:Int) ≤ i then some (i + n).toNat else none
def atI {α:Type} (xs:List α) (i:Int):Option α:=(ixN xs.length i).bind fun j=>xs[j]?
theorem ixN_seq {n:Nat} {i:Int} {j:Nat} (h:ixN n i=some j):seqIndex? i n=some j∧j < n ∧ -(n:Int) ≤ i∧i < n:=by
  unfold ixN at h
  by_cases h0:0 ≤ i
  · rw [if_pos h0] at h
    by_cases h1:i < n
    · rw [if_pos h1] at h
      have e:i.toNat=j:=Option.some.inj h
      exact ⟨by rw [seqIndex_of h0 h1,e],by omega,by omega,h1⟩
    · rw [if_neg h1] at h; cases h
  · rw [if_neg h0] at h
    by_cases h1 : -(n:Int) ≤ i
    · rw [if_pos h1] at h
      have e:(i + n).toNat=j:=Option.some.inj h
      exact ⟨by rw [seqIndex_neg (by omega) h1,e],by omega,h1,by omega⟩
    · rw [if_neg h1] at h; cases h
theorem atI_get {α:Type} {xs:List α} {i:Int} {v:α} (h:atI xs i=some v):∃ j,seqIndex? i xs.length=some j∧xs[j]?=some v∧j < xs.length ∧ -(xs.length:Int) ≤ i∧i < xs.length:=by
  unfold atI at h
  cases e:ixN xs.length i with
  | none=>rw [e] at h; cases h
  | some j =>
    rw [e] at h
    obtain ⟨h1,h2,h3,h4⟩:=ixN_seq e
    exact ⟨j,h1,h,h2,h3,h4⟩
def PlainIx (b:Expr):Prop := ∀ o i,subscripted b false o i=operate [o,i] (getItem o i)
def IxR (X:Cx) (r:R2):Prop :=
  ∀ (value slice:Expr) (pins:List (Addr × Obj)) (s:Shared) (σ:St) (H:Hp) (x y:V) (v u:Value) (Q:VK),Inv X pins σ H s→RelV x v→RelV y u→r x y H Q →
    subscripted slice false v u=operate [v,u] (getItem v u)→wpAny (model X.prog X.w) X.A (subscriptTail value slice v u) (EP X pins σ Q) X.xe s
def MtR (X:Cx) (id:String) (r:V→List V→Hp→VK→Prop):Prop :=
  ∀ (pins:List (Addr × Obj)) (s:Shared) (σ:St) (H:Hp) (x:V) (xs:List V) (v:Value) (us:List Value) (Q:VK),Inv X pins σ H s→RelV x v→Vals xs us→r x xs H Q →
    wpAny (model X.prog X.w) X.A (call (.builtin id) (v :: us)) (EP X pins σ Q) X.xe s
section
variable {X:Cx} {a b:Expr} {ta tb:TE} {pos:Pos}
theorem IxR.or {r r':R2} (h:IxR X r) (h':IxR X r'):IxR X (fun x y H Q=>r x y H Q ∨ r' x y H Q):=by
  intro value slice pins s σ H x y v u Q I rx ry q hs
  rcases q with q | q
  · exact h value slice pins s σ H x y v u Q I rx ry q hs
  · exact h' value slice pins s σ H x y v u Q I rx ry q hs
theorem pe_ix {r:R2} (hr:IxR X r) (ha:PE X a ta) (hb:PE X b tb) (hs:PlainIx b):PE X (.Subscript a b pos) (tOp r ta tb):=by
  intro pins s σ H Q I h
  exact Subscript_ (binT ha hb I h fun v u s2 x y H2 I2 rx ry q=>hr a b pins s2 σ H2 x y v u Q I2 rx ry q (hs _ _))
def rIxL (K:PySem.W.Frag):R2:=fun x y H Q => ∃ p xs i v,x = .ref p∧y = .int i∧SqL K H p xs∧atI xs i=some v∧Q v H
def rIxT (K:PySem.W.Frag):R2:=fun x y H Q => ∃ p xs i v,x = .ref p∧y = .int i∧SqT K H p xs∧atI xs i=some v∧Q v H
theorem ix_list:IxR X (rIxL X.K):=by
  intro value slice pins s σ H x y v u Q I rx ry h hs
  obtain ⟨p,xs,i,z,rfl,rfl,hq,he,q⟩:=h
  cases rx
  obtain ⟨t,rfl⟩:=ry
  obtain ⟨its,r,pl,hz⟩:=I.list hq
  obtain ⟨j,h1,h2,h3,h4,h5⟩:=atI_get he
  obtain ⟨w,ew,rw'⟩:=r.get h2
  have hl:=r.length
  have hn:=line63
  have fin:EP X pins σ Q w s:=⟨z,H,I,rw',q⟩
  by_cases h0:0 ≤ i
  · have hj:i.toNat=j:=by
      rw [seqIndex_of h0 h5] at h1
      exact Option.some.inj h1
    exact item_listR pl.isList h0 (by omega) (by rw [hj]; simpa using ew) fin hs
  · have hj:(i + (its.toArray.size:Int)).toNat=j:=by
      rw [seqIndex_neg (by omega) h4] at h1
      rw [List.size_toArray, ← hl]
      exact Option.some.inj h1
    exact subscriptTail_builtinR (x:=w) pl.isList.typeIs slot_list_getitem.lookup
      (wpAny_getItem_list_neg (Q:=fun r s'=>r=w∧EP X pins σ Q r s') pl.isList (by omega) (by rw [List.size_toArray] <;> omega) (by omega) (by rw [hj]; simpa using ew) ⟨rfl,fin⟩) hs
theorem ix_tup:IxR X (rIxT X.K):=by
  intro value slice pins s σ H x y v u Q I rx ry h hs
  obtain ⟨p,xs,i,z,rfl,rfl,hq,he,q⟩:=h
  cases rx
  obtain ⟨t,rfl⟩:=ry
  obtain ⟨its,r,pl,hz⟩:=I.tuple hq
  obtain ⟨j,h1,h2,h3,h4,h5⟩:=atI_get he
  obtain ⟨w,ew,rw'⟩:=r.get h2
  have hl:=r.length
  have hn:=line63
  have fin:EP X pins σ Q w s:=⟨z,H,I,rw',q⟩
  exact subscriptTail_builtinR (x:=w) pl.typeIs slot_tuple_getitem.lookup
    (getItem_tuple (j:=j) (Q:=fun r s'=>r=w∧EP X pins σ Q r s') pl (by omega) (by omega) (by rw [List.size_toArray, ← hl]; exact h1) (by simpa using ew) ⟨rfl,fin⟩) hs
theorem mapSeq_set (its:List Value) (n j:Nat) (u:Value):Obj.mapSeq (·.setIfInBounds j u) { cls := .type "list",data := .seq its.toArray n }={ cls := .type "list",data := .seq (its.set j u).toArray n }:=by
  simp [Obj.mapSeq]
theorem Inv.lst {pins:List (Addr × Obj)} {σ:St} {H:Hp} {s:Shared} {p:Addr} {xs:List V} (I:Inv X pins σ H s) (h:H p=some (.lst xs)) :
    ∃ (its:List Value) (n:Nat),Vals xs its∧s.heap.get? p=some { cls := .type "list",data := .seq its.toArray n }∧xs.length ≤ sizeLine:=by
  obtain ⟨z,its,n,r,e⟩:=I.hok p _ h
  exact ⟨its,n,r,e,z⟩
theorem Inv.lstUpd {pins:List (Addr × Obj)} {σ:St} {H:Hp} {s:Shared} {p:Addr} {xs ys:List V} {its its':List Value} {n n':Nat} {f:Obj→Obj} (I:Inv X pins σ H s) (h:H p=some (.lst xs))
    (ho:s.heap.get? p=some { cls := .type "list",data := .seq its.toArray n }) (hf:f { cls := .type "list",data := .seq its.toArray n }={ cls := .type "list",data := .seq its'.toArray n' }) (r:Vals ys its') (hz:ys.length ≤ sizeLine) (t:Nat) :
    Inv X pins σ (upd H p (.lst ys)) { s with heap:=s.heap.update p f,toks:=t }:=by
  have e:(s.heap.update p f).get? p=some { cls := .type "list",data := .seq its'.toArray n' }:=by
    rw [Heap.get?_update_self f ho (by rw [hf] <;> rfl),hf]
  refine I.write (x:=p) (e:=p) (by rw [h]; trivial) (.inl rfl) (fun b u hb q=>(Heap.get?_update_other _ _ (Ne.symm hb)).trans q) ⟨_,e⟩ ?_
  exact ⟨hz,its',n',r,e⟩
def rSetL:V→V→V→Hp→(Hp→Prop)→Prop:=fun o i v H Q => ∃ p xs k j,o = .ref p∧i = .int k∧H p=some (.lst xs)∧ixN xs.length k=some j∧Q (upd H p (.lst (xs.set j v)))
theorem set_list:PSet X rSetL:=by
  intro pins s σ H o i v ov iv u Q I ro ri rv h
  obtain ⟨p,xs,k,j,rfl,rfl,hp,hj,q⟩:=h
  cases ro
  obtain ⟨t,rfl⟩:=ri
  obtain ⟨its,n,r,ho,hz⟩:=I.lst hp
  obtain ⟨h1,h2,h3,h4⟩:=ixN_seq hj
  have hl:=r.length
  have hn:=line63
  have I':Inv X pins σ (upd H p (.lst (xs.set j v))) { s with heap:=s.heap.update p (Obj.mapSeq (·.setIfInBounds j u)) } :=
    I.lstUpd hp ho (mapSeq_set its n j u) (r.set rv j) (by rw [List.length_set]; exact hz) s.toks
  by_cases h0:0 ≤ k
  · have hk:k.toNat=j:=by
      rw [seqIndex_of h0 h4] at h1
      exact Option.some.inj h1
    exact PySem.W.ki_setAt ho h0 (by omega) (by rw [List.size_toArray, ← hl]; exact h4) (by rw [hk]; exact ⟨_,I',q⟩)
  · have hk:(k + (its.toArray.size:Int)).toNat=j:=by
      rw [seqIndex_neg (by omega) h3] at h1
      rw [List.size_toArray, ← hl]
      exact Option.some.inj h1
    exact PySem.W.ki_setBack ho (by omega) (by rw [List.size_toArray, ← hl]; exact h3) (by omega) (by rw [hk]; exact ⟨_,I',q⟩)
def flatV:V→Bool
  | .non=>true
  | .bl _=>true
  | .int _=>true
  | .str _=>true
  | _=>false
def eqV:V→V→Bool
  | .non, .non=>true
  | .bl a, .bl b=>a == b
  | .bl a, .int b=>(if a then 1 else 0) == b
  | .int a, .bl b=>a == (if b then 1 else 0)
  | .int a, .int b=>a == b
  | .str a, .str b=>a == b
  | _,_=>false
theorem eqAt_V {A:Around} {s:Shared} {y x:V} {u v:Value} (ry:RelV y u) (rx:RelV x v) (fy:flatV y=true) (fx:flatV x=true):SeqAt.EqAt A s u v (eqV y x):=by
  cases y with
  | non =>
    cases ry
    cases x with
    | non=>cases rx; exact SeqAt.EqAt.same _
    | bl b=>cases rx; exact SeqAt.EqAt.none_bool b
    | int b=>obtain ⟨t,rfl⟩:=rx; exact SeqAt.EqAt.none_int b t
    | str b=>obtain ⟨t,rfl⟩:=rx; exact SeqAt.EqAt.none_str b t
    | _=>exact absurd (show false=true from fx) Bool.false_ne_true
  | bl a =>
    cases ry
    cases x with
    | non=>cases rx; exact SeqAt.EqAt.bool_none a
    | bl b=>cases rx; exact SeqAt.EqAt.bool_bool a b
    | int b=>obtain ⟨t,rfl⟩:=rx; exact SeqAt.EqAt.bool_int a b t
    | str b=>obtain ⟨t,rfl⟩:=rx; exact SeqAt.EqAt.bool_str a b t
    | _=>exact absurd (show false=true from fx) Bool.false_ne_true
  | int a =>
    obtain ⟨t',rfl⟩:=ry
    cases x with
    | non=>cases rx; exact SeqAt.EqAt.int_none a t'
    | bl b=>cases rx; exact SeqAt.EqAt.int_bool a t' b
    | int b=>obtain ⟨t,rfl⟩:=rx; exact SeqAt.EqAt.int_int a t' b t
    | str b=>obtain ⟨t,rfl⟩:=rx; exact SeqAt.EqAt.int_str a t' b t
    | _=>exact absurd (show false=true from fx) Bool.false_ne_true
  | str a =>
    obtain ⟨t',rfl⟩:=ry
    cases x with
    | non=>cases rx; exact SeqAt.EqAt.str_none a t'
    | bl b=>cases rx; exact SeqAt.EqAt.str_bool a t' b
    | int b=>obtain ⟨t,rfl⟩:=rx; exact SeqAt.EqAt.str_int a t' b t
    | str b=>obtain ⟨t,rfl⟩:=rx; exact SeqAt.EqAt.str_str a t' b t
    | _=>exact absurd (show false=true from fx) Bool.false_ne_true
  | _=>exact absurd (show false=true from fy) Bool.false_ne_true
theorem call_len_seq:CallR X (.builtin "len") (fun xs H Q => ∃ p ys,xs=[.ref p]∧(SqL X.K H p ys ∨ SqT X.K H p ys)∧Q (.int ys.length) H):=by
  intro pins s σ H xs us Q I r h
  obtain ⟨p,ys,rfl,hq,q⟩:=h
  obtain ⟨u,rfl,rx⟩:=vals1 r
  cases rx
  have hn:=line63
  rcases hq with hq | hq
  · obtain ⟨its,r',pl,hz⟩:=I.list hq
    have hlen:=r'.length
    exact Calls.call_len_list pl.isList (by simp only [List.size_toArray] <;> omega) ⟨.int ys.length,H,I.tok _,⟨s.toks + 1,by rw [List.size_toArray,hlen]⟩,q⟩
  · obtain ⟨its,r',pl,hz⟩:=I.tuple hq
    have hlen:=r'.length
    exact len_tuple pl (by simp only [List.size_toArray] <;> omega) ⟨.int ys.length,H,I.tok _,⟨s.toks + 1,by rw [List.size_toArray,hlen]⟩,q⟩
theorem call_list_of:CallR X (.type "list") (fun xs H Q => ∃ p ys,xs=[.ref p]∧(SqL X.K H p ys ∨ SqT X.K H p ys)∧∀ l,H l=none→Q (.ref l) (upd H l (.lst ys))):=by
  intro pins s σ H xs us Q I r h
  obtain ⟨p,ys,rfl,hq,q⟩:=h
  obtain ⟨u,rfl,rx⟩:=vals1 r
  cases rx
  have fin:∀ (its:List Value),Vals ys its→ys.length ≤ sizeLine→∀ (h':Heap) (c':Nat),(∀ b o',s.heap.get? b=some o'→h'.get? b=some o') →
      h'.get? s.heap.objs.size=some { cls := .type "list",dict:=none,data := .seq its.toArray c',slots := #[] }→EP X pins σ Q (.ref s.heap.objs.size) { s with heap:=h' }:=fun its r' hz h' c' kp e =>
    ⟨.ref s.heap.objs.size,_,I.laid (t':=s.toks) kp (Nat.le_refl _) (show ObjOk X.prog X.w _ h' _ (.lst ys) from ⟨hz,its,c',r',e⟩),rfl,q _ (I.hok.fresh (Nat.le_refl _))⟩
  rcases hq with hq | hq
  · obtain ⟨its,r',pl,hz⟩:=I.list hq
    have hlen:=r'.length
    obtain ⟨o,ho,hc,n,hd⟩:=pl.isList
    exact call_list_seq p (.inl rfl) ho hc hd (fun h' c' kp e=>fin its r' hz h' c' kp e) (by simp only [List.size_toArray] <;> omega)
  · obtain ⟨its,r',pl,hz⟩:=I.tuple hq
    have hlen:=r'.length
    obtain ⟨o,ho,hc,n,hd⟩:=pl
    exact call_list_seq p (.inr rfl) ho hc hd (fun h' c' kp e=>fin its r' hz h' c' kp e) (by simp only [List.size_toArray] <;> omega)
def tyV (K:PySem.W.Frag) (T:String) (x:V) (H:Hp):Prop:=match x with
  | .str _=>T = "str"
  | .int _=>T = "int"
  | .ref p=>(T = "list"∧∃ xs,SqL K H p xs) ∨ (T = "tuple"∧∃ o,K.lookup p=some o∧o.cls = .type "tuple"∧o.dict=none) ∨
      (T = "dict"∧((∃ kvs,H p=some (.dK kvs)) ∨ ∃ kvs,H p=some (.dT kvs))) ∨ (T = "set"∧∃ S n,H p=some (.set S n))
  | _=>False
theorem tyV_is {pins:List (Addr × Obj)} {σ:St} {H:Hp} {s:Shared} {T:String} {x:V} {v:Value} (I:Inv X pins σ H s) (r:RelV x v) (ty:tyV X.K T x H) :
    s.TypeIs v T∧∀ a,v = .ref a→∃ ob,s.heap.get? a=some ob∧ob.dict=none:=by
  cases x with
  | str z =>
    obtain ⟨t,rfl⟩:=r
    cases (show T = "str" from ty)
    exact ⟨typeIs_str s z t,fun _ e=>nomatch e⟩
  | int i =>
    obtain ⟨t,rfl⟩:=r
    cases (show T = "int" from ty)
    exact ⟨typeIs_int s i t,fun _ e=>nomatch e⟩
  | ref p =>
    cases r
    rcases ty with ⟨rfl,xs,hq⟩ | ⟨rfl,o,hk,hc,hd⟩ | ⟨rfl,hk⟩ | ⟨rfl,S,n,hk⟩
    · obtain ⟨its,_,pl,_⟩:=I.list hq
      refine ⟨pl.isList.typeIs,fun a e=>?_⟩
      cases e
      obtain ⟨o,n,e,c,hd,_⟩:=pl
      exact ⟨o,e,hd⟩
    · refine ⟨⟨o,I.kIn p o hk,hc⟩,fun a e=>?_⟩
      cases e
      exact ⟨o,I.kIn _ o hk,hd⟩
    · have z:∃ o,s.heap.get? p=some o∧o.ExactDict:=by
        rcases hk with ⟨kvs,hk⟩ | ⟨kvs,hk⟩
        · obtain ⟨_,_,_,_,o,_,_,e,ex,_⟩:=I.hok p _ hk
          exact ⟨o,e,ex⟩
        · obtain ⟨_,_,_,_,o,_,_,e,ex,_⟩:=I.hok p _ hk
          exact ⟨o,e,ex⟩
      obtain ⟨o,e,ex⟩:=z
      refine ⟨⟨o,e,ex.1⟩,fun a e2=>?_⟩
      cases e2
      exact ⟨o,e,ex.2.1⟩
    · obtain ⟨o,_,_,_,e,ex,_⟩:=I.hok p _ hk
      refine ⟨⟨o,e,ex.1⟩,fun a e2=>?_⟩
      cases e2
      exact ⟨o,e,ex.2.1⟩
  | _=>exact False.elim ty
def tBM0 (K:PySem.W.Frag) (T:String) (r:V→List V→Hp→VK→Prop) (to:TE):TE:=fun σ H Q=>to σ H fun x H1=>tyV K T x H1∧r x [] H1 Q
def tBM (K:PySem.W.Frag) (T:String) (r:V→List V→Hp→VK→Prop) (to:TE) (t:TA):TE:=fun σ H Q=>to σ H fun x H1=>tyV K T x H1∧t σ H1 fun xs H2=>r x xs H2 Q
variable {o e:Expr} {es:List Expr} {to:TE} {t:TA} {name:Str} {apos cpos:Pos} {T id:String} {r:V→List V→Hp→VK→Prop}
theorem pe_bm0 (pa:PlainAttrs T) (slot:Slot T name id) (hty:typeOf (.builtin id)=pure (.type "method_descriptor")) (hm:MtR X id r) (ho:PE X o to)
    (hbase:attributeBase o name X.env (eval o X.env)=eval o X.env:=by rfl) (hline:(apos.endLine == cpos.line)=true:=by rfl):PE X (.Call (.Attribute o name apos) [] [] cpos) (tBM0 X.K T r to):=by
  intro pins s σ H Q I h
  refine wpAny_Call_method0_late hbase hline (thn (ho pins s σ H _ I h) fun v s1 ⟨x,H1,I1,r1,ty,q1⟩=>?_)
  obtain ⟨h1,h2⟩:=tyV_is I1 r1 ty
  exact ⟨T,id,pa,slot,hty,h1,h2,Calls.callWith_builtin rfl (PySem.evalArgs_none (hm pins s1 σ H1 x [] v [] Q I1 r1 .nil q1))⟩
theorem pe_bm (pa:PlainAttrs T) (slot:Slot T name id) (hty:typeOf (.builtin id)=pure (.type "method_descriptor")) (hm:MtR X id r) (ho:PE X o to) (ha:PA X (e :: es) t)
    (hbase:attributeBase o name X.env (eval o X.env)=eval o X.env:=by rfl)
    (hfew:((backTo cpos (starEach (e :: es) X.env)).all (fun x => !x.1) && (backToKw cpos (keywordEach [] X.env)).all (fun x=>x.1.isSome)
      && decide ((e :: es).length + ([]:List Keyword).length + (if ([]:List Keyword).isEmpty then 0 else 1) < 30))=true:=by rfl)
    (hline:(apos.endLine == cpos.line)=true:=by rfl) (hs:starEach (e :: es) X.env=(false,eval e X.env) :: starEach es X.env:=by rfl) (hplain:(backTo cpos (starEach es X.env)).any (·.1)=false:=by rfl) :
    PE X (.Call (.Attribute o name apos) (e :: es) [] cpos) (tBM X.K T r to t):=by
  intro pins s σ H Q I h
  refine wpAny_Call_method_late hbase hfew hline rfl (thn (ho pins s σ H _ I h) fun v s1 ⟨x,H1,I1,r1,ty,q1⟩=>?_)
  obtain ⟨h1,h2⟩:=tyV_is I1 r1 ty
  refine ⟨T,id,pa,slot,hty,h1,h2,?_⟩
  have hA:=ha cpos pins s1 σ H1 _ I1 q1
  rw [hs] at hA ⊢
  refine Calls.callWith_builtin (by show (false || (backTo cpos (starEach es X.env)).any (·.1))=false; rw [hplain] <;> rfl) (Calls.evalArgs_plain ?_)
  exact thn hA fun us s2 ⟨vs,H2,I2,r2,q2⟩=>hm pins s2 σ H2 x vs v us Q I2 r1 r2 q2
end
end L2
namespace L2
open PySem PySem.Spec PyProof.Rows
def MtM (X:Cx) (id:String) (r:V→List V→Hp→VK→Prop):Prop :=
  ∀ (pins:List (Addr × Obj)) (s:Shared) (σ:St) (H:Hp) (x:V) (xs:List V) (v:Value) (us:List Value) (Q:VK),Inv X pins σ H s→RelV x v→Vals xs us→r x xs H Q →
    wpAny (model X.prog X.w) X.A (call (.builtin id) (v :: us)) (EP X pins σ Q) X.xe s
theorem Vals.one:∀ {x:V} {us:List Value},Vals [x] us→∃ u,us=[u]∧RelV x u
  | _,_, .cons r .nil=>⟨_,rfl,r⟩
theorem Vals.two:∀ {x y:V} {us:List Value},Vals [x,y] us→∃ u v,us=[u,v]∧RelV x u∧RelV y v
  | _,_,_, .cons r (.cons q .nil)=>⟨_,_,rfl,r,q⟩
theorem Vals.zero:∀ {us:List Value},Vals [] us→us=[]
  | _, .nil=>rfl
theorem Vals.dropLast {xs:List V} {us:List Value} (h:Vals xs us):Vals xs.dropLast us.dropLast:=by
  induction h with
  | nil=>exact .nil
  | cons r t ih =>
    cases t with
    | nil=>exact .nil
    | cons q t'=>exact .cons r ih
theorem Vals.eraseIdx:∀ {xs:List V} {us:List Value} (i:Nat),Vals xs us→Vals (xs.eraseIdx i) (us.eraseIdx i)
  | _,_,_, .nil => .nil
  | _,_,0, .cons _ t=>t
  | _,_,i + 1, .cons r t => .cons r (Vals.eraseIdx i t)
theorem Vals.rep {xs:List V} {us:List Value} (h:Vals xs us):∀ k:Nat,Vals (List.replicate k xs).flatten (List.replicate k us).flatten
  | 0 => .nil
  | k + 1=>by
    rw [List.replicate_succ,List.replicate_succ,List.flatten_cons,List.flatten_cons]
    exact Vals.append h (Vals.rep h k)
theorem erase_last {α:Type} (l:List α):l.eraseIdx (l.length - 1)=l.dropLast:=by
  induction l with
  | nil=>rfl
  | cons a r ih =>
    cases r with
    | nil=>rfl
    | cons b r =>
      have e:(a :: b :: r).length - 1=((b :: r).length - 1) + 1:=by
        have h1:(a :: b :: r).length=r.length + 2:=rfl
        have h2:(b :: r).length=r.length + 1:=rfl
        omega
      rw [e,List.eraseIdx_cons_succ,ih]
      all_goals rfl
theorem len_erase {α:Type}:∀ (l:List α) (i:Nat),(l.eraseIdx i).length ≤ l.length
  | [],_=>Nat.le_refl _
  | _ :: _,0=>Nat.le_succ _
  | _ :: r,i + 1=>Nat.succ_le_succ (len_erase r i)
theorem foldl_rep (its:List Value):∀ (k:Nat) (acc:List Value),
    List.foldl (fun x1 x2=>x1 ++ x2) acc.toArray (List.replicate k its.toArray)=(acc ++ (List.replicate k its).flatten).toArray
  | 0,acc=>by simp
  | k + 1,acc=>by
    have e:acc.toArray ++ its.toArray=(acc ++ its).toArray:=by simp
    have e2:(acc ++ its) ++ (List.replicate k its).flatten=acc ++ (List.replicate (k + 1) its).flatten:=by
      rw [List.replicate_succ,List.flatten_cons,List.append_assoc]
    rw [← e2, ← foldl_rep its k (acc ++ its), ← e,List.replicate_succ,List.foldl_cons]
section
variable {X:Cx} {pins:List (Addr × Obj)} {σ:St} {H:Hp} {s:Shared} {l b:Addr} {xs ys zs:List V}
theorem Inv.lset {its its':List Value} {n:Nat} {f:Array Value→Array Value} {t':Nat} (I:Inv X pins σ H s) (hH:H l=some (.lst xs))
    (e:s.heap.get? l=some { cls := .type "list",data := .seq its.toArray n }) (hf:f its.toArray=its'.toArray) (hv:Vals ys its') (hz:ys.length ≤ sizeLine) :
    Inv X pins σ (upd H l (.lst ys)) { s with heap:=s.heap.update l (Obj.mapSeq f),toks:=t' }:=by
  have q:=PySem.IsL.update e f
  rw [hf] at q
  refine I.write (x:=l) (e:=l) (by rw [hH]; exact trivial) (.inl rfl) (fun b' u hb hu=>(Heap.get?_update_other s.heap (Obj.mapSeq f) (Ne.symm hb)).trans hu) ⟨_,q⟩ ?_
  exact ⟨hz,its',_,hv,q⟩
theorem Inv.lnew {its:List Value} {t':Nat} (I:Inv X pins σ H s) (hv:Vals ys its) (hz:ys.length ≤ sizeLine) :
    Inv X pins σ (upd H s.heap.objs.size (.lst ys)) { s with heap:=s.heap.push { cls := .type "list",data := .seq its.toArray },toks:=t' } :=
  I.laid (fun _ _ q=>Heap.get?_push_of_some _ q) (Nat.le_refl _) ⟨hz,its,0,hv,Heap.get?_push_size _ rfl⟩
theorem Inv.fresh (I:Inv X pins σ H s):H s.heap.objs.size=none:=I.hok.fresh (Nat.le_refl _)
theorem Inv.lstM (I:Inv X pins σ H s) (hH:H l=some (.lst xs)):xs.length ≤ sizeLine∧∃ (its:List Value) (n:Nat),Vals xs its∧xs.length=its.length∧s.heap.get? l=some { cls := .type "list",data := .seq its.toArray n }:=by
  obtain ⟨z,its,n,r,e⟩:=I.hok l _ hH
  exact ⟨z,its,n,r,r.length,e⟩
theorem notLongL {n:Nat} (h:n ≤ sizeLine):Builtin.List.listTooLong n=false:=by
  unfold Builtin.List.listTooLong
  exact decide_eq_false (by omega)
end
section
variable {X:Cx}
def rAppend:V→List V→Hp→VK→Prop:=fun x vs H Q => ∃ l xs y,x = .ref l∧vs=[y]∧H l=some (.lst xs)∧xs.length < sizeLine∧Q .non (upd H l (.lst (xs ++ [y])))
theorem mt_append:MtM X "list.append" rAppend:=by
  intro pins s σ H x vs v us Q I rx rv h
  obtain ⟨l,xs,y,rfl,rfl,hH,hz,q⟩:=h
  cases rx
  obtain ⟨u,rfl,ru⟩:=rv.one
  obtain ⟨z,its,n,r,hl,e⟩:=I.lstM hH
  refine call_meets F.slot_list_append ⟨_,e,rfl⟩ F.entry_list_append (F.args_list_append_2 _ _) (PySem.list_append l its.toArray n u (by rw [List.size_toArray]; omega)) ⟨e,?_⟩
  refine ⟨.non,_,I.lset (its':=its ++ [u]) hH e (by simp) (r.append (.cons ru .nil)) ?_,rfl,q⟩
  rw [List.length_append,List.length_singleton]
  omega
def rPop:V→List V→Hp→VK→Prop:=fun x vs H Q => ∃ l xs y,x = .ref l∧vs=[]∧H l=some (.lst xs)∧xs[xs.length - 1]?=some y∧Q y (upd H l (.lst xs.dropLast))
theorem mt_pop:MtM X "list.pop" rPop:=by
  intro pins s σ H x vs v us Q I rx rv h
  obtain ⟨l,xs,y,rfl,rfl,hH,hy,q⟩:=h
  cases rx
  have hus:=rv.zero
  subst hus
  obtain ⟨z,its,n,r,hl,e⟩:=I.lstM hH
  obtain ⟨u,hu,ru⟩:=r.get hy
  have hy':its.toArray[its.toArray.size - 1]?=some u:=by
    show its.toArray[its.length - 1]?=some u
    rw [← Array.getElem?_toList, ← hl]
    exact hu
  refine call_meets F.slot_list_pop ⟨_,e,rfl⟩ F.entry_list_pop (F.args_list_pop_1 _) (MeetsSeq.list_pop_last l its.toArray n u hy' (by rw [List.size_toArray]; omega)) ⟨e,?_⟩
  refine ⟨y,_,I.lset (its':=its.dropLast) hH e ?_ r.dropLast ?_,ru,q⟩
  · show its.toArray.eraseIdxIfInBounds (its.toArray.size - 1)=its.dropLast.toArray
    rw [List.size_toArray,List.eraseIdxIfInBounds_toArray,erase_last]
  · rw [List.length_dropLast]
    omega
def rPopAt:V→List V→Hp→VK→Prop:=fun x vs H Q => ∃ l xs i k y,x = .ref l∧vs=[.int i]∧H l=some (.lst xs) ∧ -(2 ^ 63) ≤ i∧i < 2 ^ 63∧seqIndex? i xs.length=some k∧xs[k]?=some y∧Q y (upd H l (.lst (xs.eraseIdx k)))
theorem mt_popAt:MtM X "list.pop" rPopAt:=by
  intro pins s σ H x vs v us Q I rx rv h
  obtain ⟨l,xs,i,k,y,rfl,rfl,hH,h1,h2,hk,hy,q⟩:=h
  cases rx
  obtain ⟨u,rfl,ru⟩:=rv.one
  obtain ⟨t,rfl⟩:=ru
  obtain ⟨z,its,n,r,hl,e⟩:=I.lstM hH
  obtain ⟨w,hw,rw'⟩:=r.get hy
  refine call_meets F.slot_list_pop ⟨_,e,rfl⟩ F.entry_list_pop (F.args_list_pop_2 _ _)
    (MeetsSeq.list_pop_at l its.toArray n i t k w (fitsIndex_both h1 h2) (by rw [List.size_toArray, ← hl]; exact hk) (by rw [← Array.getElem?_toList]; exact hw) (by rw [List.size_toArray]; omega)) ⟨e,?_⟩
  refine ⟨y,_,I.lset (its':=its.eraseIdx k) hH e ?_ (r.eraseIdx k) ?_,rw',q⟩
  · show its.toArray.eraseIdxIfInBounds k=(its.eraseIdx k).toArray
    rw [List.eraseIdxIfInBounds_toArray]
  · have:=len_erase xs k
    omega
def rRep:R2:=fun x y H Q => ∃ l k xs,x = .ref l∧y = .int k∧H l=some (.lst xs) ∧ -(2 ^ 63) ≤ k∧k < 2 ^ 63∧xs.length * k.toNat ≤ sizeLine ∧
  ∀ p,H p=none→Q (.ref p) (upd H p (.lst (List.replicate k.toNat xs).flatten))
theorem len_rep {α:Type} (xs:List α) (k:Nat):(List.replicate k xs).flatten.length=k * xs.length:=by
  induction k with
  | zero=>simp
  | succ k ih=>rw [List.replicate_succ,List.flatten_cons,List.length_append,ih,Nat.succ_mul,Nat.add_comm]
theorem op_rep:OpR X (binaryOp .Mult) rRep:=by
  intro pins s σ H x y v u Q I rx ry h
  obtain ⟨l,k,xs,rfl,rfl,hH,h1,h2,hz,q⟩:=h
  cases rx
  obtain ⟨t,rfl⟩:=ry
  obtain ⟨z,its,n,r,hl,e⟩:=I.lstM hH
  have hlen:its.toArray.size * k.toNat ≤ sizeLine:=by rw [List.size_toArray, ← hl]; exact hz
  have hcap : ¬ its.toArray.size * k.toNat > (2 ^ 63 - 1) / 8:=by
    have:(sizeLine:Nat) ≤ (2 ^ 63 - 1) / 8:=by decide
    omega
  have hfit : ¬ (!Builtin.List.listFitsIndex k)=true:=by
    rw [fitsIndex_both h1 h2]
    exact Bool.false_ne_true
  have hlong : ¬ Builtin.List.listTooLong (its.toArray.size * k.toNat)=true:=by
    rw [notLongL hlen]
    exact Bool.false_ne_true
  have hnew:List.foldl (fun x1 x2=>x1 ++ x2) #[] (List.replicate (if its.toArray.isEmpty=true then 0 else k.toNat) its.toArray)=(List.replicate k.toNat its).flatten.toArray:=by
    have f0:∀ m:Nat,List.foldl (fun x1 x2=>x1 ++ x2) #[] (List.replicate m its.toArray)=(List.replicate m its).flatten.toArray:=fun m=>by
      have:=foldl_rep its m []
      rw [List.nil_append] at this
      exact this
    rw [f0]
    cases its with
    | nil=>simp
    | cons a r'=>rw [if_neg (by simp)]
  refine wpAny_binaryOp_repeat_ref (T := "list") (U := "int") (by decide) ⟨_,e,rfl⟩ (fun s'=>typeIs_int s' k t) noFill_list_mul F.fills_int_mul F.slot_int_rmul repeat_list F.slot_int_index.lookup
    (call_meets F.slot_int_rmul (typeIs_int s k t) F.entry_int_rmul (F.args_int_rmul_2 _ _) (int___rmul___int_list k t l its.toArray n)
      ⟨e,rfl,⟨_,e,rfl⟩,call_meets F.slot_list_mul ⟨_,e,rfl⟩ F.entry_list_mul (F.args_list_mul_2 _ _) (AutoListH.list___mul___list_int_3 l its.toArray n k t hfit hcap hlong) ⟨e,?_⟩⟩)
  rw [hnew]
  exact ⟨.ref _,_,I.lnew (t':=s.toks) (r.rep k.toNat) (by rw [len_rep,Nat.mul_comm]; exact hz),rfl,q _ I.fresh⟩
end
end L2
namespace Att
open PySem PySem.W PySem.Calls PyProof.Rows
theorem ints_of_wellAll {P:Params} {h:Heap}:∀ (ns:List Int) (vs:List Value),WellAll P h vs (ns.map WData.int)→IntsAre vs ns:=by
  intro ns
  induction ns with
  | nil =>
    intro vs w
    rw [List.map_nil] at w
    cases w
    exact .nil
  | cons n ns ih =>
    intro vs w
    rw [List.map_cons] at w
    cases w with
    | cons a b =>
      cases a
      exact .cons _ _ (ih _ b)
theorem script_of {l:OpenLaw} {n:Nat} (hn:l.most=some n) {P:Params} {h:Heap} {args:List WData} {vals:List Value}
    (hpre:l.row.toRowW.claim.pre args=true) (hwl:WellAll P h vals args) :
    ∃ a vs ns,vals=[Value.ref a]∧args=[WData.list (ns.map WData.int)]∧h.get? a=some { cls := .type "list",data := .seq vs.toArray }∧IntsAre vs ns∧ns.length ≤ n:=by
  have hsh:WShape.hasAll [] args [.list .int]=true:=(pre_splitW hpre).1
  have hc:l.pre.holds [] { args:=args }=true:=(pre_splitW hpre).2
  obtain ⟨d,r,rfl,h1,h2⟩:=hasAllW_cons hsh
  obtain rfl:=hasAllW_nil h2
  obtain ⟨xs,rfl,h3⟩:=hasW_list h1
  obtain ⟨ns,rfl⟩:=items_int h3
  have hlen:ns.length ≤ n:=by
    unfold OpenLaw.pre at hc
    have h4:(WTm.not (.lt (.lit (.int (n:Int))) (.len (.arg 0)))).holds [] { args:=[.list (ns.map .int)] }=true:=by
      have h4:=(holds_andW hc).1
      rw [hn] at h4
      exact h4
    have h5:=condW_of h4 (w_not (w_lt w_lit (w_len_list (w_arg rfl))))
    rw [List.length_map] at h5
    refine Nat.le_of_not_lt fun q=>?_
    have q':(n:Int) < ((ns.length:Nat):Int):=by omega
    first
      | (rw [decide_eq_true q'] at h5; exact absurd h5 (by decide))
      | (simp at h5; omega)
  cases hwl with
  | cons w1 w2 =>
    cases w2
    cases w1 with
    | list ho hall=>exact ⟨_,_,ns,rfl,rfl,ho,ints_of_wellAll ns _ hall,hlen⟩
theorem post_true (l:OpenLaw) (args:List WData):l.row.toRowW.claim.post args (.bool true) args=true :=
  postW_of (r:=l.row.toRowW) (X:=(true == true))
    (show WShape.has [] (.bool true) .bool=true by first | rfl | decide | simp [WShape.has,WShape.arms,WShape.armsAll])
    (show (WTm.eq .res (.lit (.bool true))).value [] { args:=args,res:=some (.bool true),after:=args }=some (.bool (true == true)) from w_eq_bool (w_res rfl) w_lit) rfl
end Att
namespace L2
open PySem PySem.Spec PyProof.Rows
theorem vals_ints:∀ {vs:List Value} {ns:List Int},IntsAre vs ns→Vals (ns.map V.int) vs
  | _,_, .nil => .nil
  | _,_, .cons n t h => .cons ⟨t,rfl⟩ (vals_ints h)
def defArgs (s:Stmt):Arguments:=match s with
  | .FunctionDef _ a _ _ _ _ _ _ _ _=>a
  | _=>{ posonlyargs:=[],args:=[],vararg:=none,kwonlyargs:=[],kw_defaults:=[],kwarg:=none,defaults:=[] }
def defBody (s:Stmt):List Stmt:=match s with
  | .FunctionDef _ _ b _ _ _ _ _ _ _=>b
  | _=>[]
def defScope (s:Stmt):Scope:=match s with
  | .FunctionDef _ _ _ _ _ _ sc _ _ _=>sc
  | _=>{ kind := .function,names:=[],isGenerator:=false,isCoroutine:=false }
abbrev CX0:CXT:=fun _ _ _ _ _ _=>False
abbrev E0:XK:=fun _ _ _=>False
theorem pass0 {X:Cx}:Passes CX0 X E0:=fun _ _ _ _ _ _ _ h=>h.elim
structure Fun (K:PySem.W.Frag) (x qual:Str) (st:Stmt) (f:Addr) (fd:FuncData):Prop where
  ex:∃ (oc:Value) (od:Option Addr) (kV doc pm:Value) (an:Option Addr) (cdv ct:Value) (osl:Array (Option Value)),
    fd=PySem.W.fnOf x qual (defArgs st) (defBody st) (defScope st) .none kV doc pm an cdv ct∧K.lookup f=some ⟨oc,od, .func fd,osl⟩∧PySem.W.codeIn K cdv qual=true
  kp:PySem.W.keepIn K (.ref f)=true
section
variable {P:Program} {w:World} {K:PySem.W.Frag} {mg:Str→Option Value} {base:BHeap}
theorem Fun.ok {x qual:Str} {st:Stmt} {f:Addr} {fd:FuncData} {N ps:List Str} {k:Nat} {sp:Sp} (F:Fun K x qual st f fd) (S:FnScope N ps (defScope st)) (len:∀ vs H Q E,sp vs H Q E→vs.length=ps.length)
    (hbody:∀ (cdv:Value) (A:Around) (outer:List Env) (s:Shared) (H:Hp) (vs:List V) (Q:VK) (E:XK),Room k (A.deeper (envOfC qual (defScope st) s.heap.objs.size f cdv))→sp vs H Q E →
      ∃ t,PSs (cxOf CX0 P w K mg base N qual (defScope st) f cdv A outer s H E).nox (defBody st) t∧t { nx:=fun _ H'=>Q .non H',rt:=Q } (start N vs) H):FnOk P w K mg base CX0 (k + 1) f fd ps sp:=by
  obtain ⟨oc,od,kV,doc,pm,an,cdv,ct,osl,rfl,lk,hcd⟩:=F.ex
  refine fn_of lk hcd S len fun A outer s H vs Q E hr hsp=>?_
  obtain ⟨t,h,q⟩:=hbody cdv A outer s H vs Q E hr hsp
  exact ⟨t,h.nox,q⟩
theorem Fun.binds {x qual:Str} {st:Stmt} {f:Addr} {fd:FuncData} {ps:List Str} (F:Fun K x qual st f fd)
    (h:∀ (kV doc pm:Value) (an:Option Addr) (cdv ct:Value) (us:List Value),us.length=ps.length→bindArgs (PySem.W.fnOf x qual (defArgs st) (defBody st) (defScope st) .none kV doc pm an cdv ct) ⟨us,[]⟩=pure (ps.zip us)):Binds K fd ps []:=by
  obtain ⟨oc,od,kV,doc,pm,an,cdv,ct,osl,rfl,lk,hcd⟩:=F.ex
  exact .all (h kV doc pm an cdv ct)
theorem fun_mk {x qual:Str} {st:Stmt} {f:Addr} {oc:Value} {od an:Option Addr} {osl:Array (Option Value)} {kV doc pm cdv ct:Value} (l:K.lookup f=some ⟨oc,od, .func (PySem.W.fnOf x qual (defArgs st) (defBody st) (defScope st) .none kV doc pm an cdv ct),osl⟩)
    (c:PySem.W.codeIn K cdv qual=true) (k:PySem.W.keepIn K (.ref f)=true):Fun K x qual st f (PySem.W.fnOf x qual (defArgs st) (defBody st) (defScope st) .none kV doc pm an cdv ct):=⟨⟨oc,od,kV,doc,pm,an,cdv,ct,osl,rfl,l,c⟩,k⟩
end
theorem iteF {A B:Prop} (h:B):if false=true then A else B:=by
  rw [if_neg Bool.false_ne_true]
  exact h
theorem iteT {A B:Prop} (h:A):if true=true then A else B:=by
  rw [if_pos rfl]
  exact h
def Same (H H':Hp):Prop := ∀ b o,H b=some o→H' b=some o
theorem Same.refl (H:Hp):Same H H:=fun _ _ h=>h
theorem Same.trans {H H1 H2:Hp} (a:Same H H1) (b:Same H1 H2):Same H H2:=fun c o h=>b c o (a c o h)
theorem Same.free {H H':Hp} (e:Same H H') {l:Addr} (h:H' l=Option.none):H l=Option.none:=by
  cases q:H l with
  | none=>rfl
  | some o =>
    rw [e l o q] at h
    cases h
theorem Same.seq {K:PySem.W.Frag} {H H':Hp} {a:Addr} {xs:List V} (e:Same H H') (h:SqL K H a xs):SqL K H' a xs:=by
  rcases h with (h | ⟨o,h⟩) | h
  · exact .inl (.inl (e _ _ h))
  · exact .inl (.inr ⟨o,e _ _ h⟩)
  · exact .inr h
end L2
set_option maxHeartbeats 4000000
namespace L2
open PySem PySem.Spec PyProof.Rows
section
variable {κ:Type} [DecidableEq κ]
theorem KV.any {kvs:List (κ × V)} {vs:List (κ × Value)} (r:KV kvs vs) (k:κ):(kvs.any fun kv=>decide (kv.1=k))=vs.any fun kv=>decide (kv.1=k):=by
  unfold KV at r
  induction r with
  | nil=>rfl
  | cons h t ih=>rw [List.any_cons,List.any_cons,ih,h.1]
theorem KV.length {kvs:List (κ × V)} {vs:List (κ × Value)} (r:KV kvs vs):kvs.length=vs.length:=Paired.length r
end
abbrev KT (H:Hp):List (List Key × V)→List (List Key × Addr × Value)→Prop:=Paired fun p q=>p.1=q.1∧H q.2.1=some (.tup (p.1.map kV))∧RelV p.2 q.2.2
structure M1 (X:Cx) (o:Expr) (m:Str) (apos:Pos) (e:Expr) (cpos:Pos):Prop where
  base:attributeBase o m X.env (eval o X.env)=eval o X.env
  few:((backTo cpos (starEach [e] X.env)).all (fun x => !x.1) && (backToKw cpos (keywordEach [] X.env)).all (fun x=>x.1.isSome)
    && decide (([e]:List Expr).length + ([]:List Keyword).length + (if ([]:List Keyword).isEmpty then 0 else 1) < 30))=true
  line:(apos.endLine == cpos.line)=true
  trees:backTo cpos (starEach [e] X.env)=[(false,eval e X.env)]
structure M2 (X:Cx) (o:Expr) (m:Str) (apos:Pos) (e f:Expr) (cpos:Pos):Prop where
  base:attributeBase o m X.env (eval o X.env)=eval o X.env
  few:((backTo cpos (starEach [e,f] X.env)).all (fun x => !x.1) && (backToKw cpos (keywordEach [] X.env)).all (fun x=>x.1.isSome)
    && decide (([e,f]:List Expr).length + ([]:List Keyword).length + (if ([]:List Keyword).isEmpty then 0 else 1) < 30))=true
  line:(apos.endLine == cpos.line)=true
  trees:backTo cpos (starEach [e,f] X.env)=[(false,eval e X.env),(false,eval f X.env)]
end L2
namespace DL
open PySem PySem.Spec PyProof.Rows L2
inductive D where
  | non | bl (b:Bool) | int (i:Int) | str (x:Str) | tup (xs:List D) | lst (xs:List D) | dct (ks:List Key) (ds:List D) | pdc (ps:List (Int × Int))
def mkKV (ks:List Key) (vs:List V):List (Key × V):=ks.zip vs
def pkv (ps:List (Int × Int)):List (List Key × V):=ps.map fun q=>([Sum.inl q.1,Sum.inl q.2],V.bl true)
mutual
inductive Rep (K:PySem.W.Frag) (H:Hp):D→V→Prop
  | non:Rep K H .non .non
  | bl (b:Bool):Rep K H (.bl b) (.bl b)
  | int (i:Int):Rep K H (.int i) (.int i)
  | str (x:Str):Rep K H (.str x) (.str x)
  | tup {ds:List D} {p:Addr} {vs:List V}:SqT K H p vs→Reps K H ds vs→Rep K H (.tup ds) (.ref p)
  | lst {ds:List D} {p:Addr} {vs:List V}:SqL K H p vs→Reps K H ds vs→Rep K H (.lst ds) (.ref p)
  | dct {ks:List Key} {ds:List D} {p:Addr} {vs:List V}:ks.length=vs.length→H p=some (.dK (mkKV ks vs))→Reps K H ds vs→Rep K H (.dct ks ds) (.ref p)
  | pdc {ps:List (Int × Int)} {p:Addr}:H p=some (.dT (pkv ps))→Rep K H (.pdc ps) (.ref p)
inductive Reps (K:PySem.W.Frag) (H:Hp):List D→List V→Prop
  | nil:Reps K H [] []
  | cons {d:D} {v:V} {ds:List D} {vs:List V}:Rep K H d v→Reps K H ds vs→Reps K H (d :: ds) (v :: vs)
end
theorem SqL.mono {K:PySem.W.Frag} {H H':Hp} {a:Addr} {xs:List V} (e:Same H H') (h:SqL K H a xs):SqL K H' a xs:=e.seq h
theorem SqT.mono {K:PySem.W.Frag} {H H':Hp} {a:Addr} {xs:List V} (e:Same H H') (h:SqT K H a xs):SqT K H' a xs:=by
  rcases h with (h | ⟨o,h⟩) | h
  · exact .inl (.inl (e _ _ h))
  · exact .inl (.inr ⟨o,e _ _ h⟩)
  · exact .inr h
mutual
theorem Rep.mono {K:PySem.W.Frag} {H H':Hp} (e:Same H H'):∀ {d:D} {v:V},Rep K H d v→Rep K H' d v
  | _,_, .non => .non
  | _,_, .bl b => .bl b
  | _,_, .int i => .int i
  | _,_, .str x => .str x
  | _,_, .tup h r => .tup (SqT.mono e h) (Reps.mono e r)
  | _,_, .lst h r => .lst (SqL.mono e h) (Reps.mono e r)
  | _,_, .dct l h r => .dct l (e _ _ h) (Reps.mono e r)
  | _,_, .pdc h => .pdc (e _ _ h)
theorem Reps.mono {K:PySem.W.Frag} {H H':Hp} (e:Same H H'):∀ {ds:List D} {vs:List V},Reps K H ds vs→Reps K H' ds vs
  | _,_, .nil => .nil
  | _,_, .cons h r => .cons (Rep.mono e h) (Reps.mono e r)
end
theorem Reps.length {K:PySem.W.Frag} {H:Hp}:∀ {ds:List D} {vs:List V},Reps K H ds vs→vs.length=ds.length
  | _,_, .nil=>rfl
  | _,_, .cons _ r=>by simp [Reps.length r]
theorem Reps.get {K:PySem.W.Frag} {H:Hp}:∀ {ds:List D} {vs:List V},Reps K H ds vs→∀ {i:Nat} {d:D},ds[i]?=some d→∃ v,vs[i]?=some v∧Rep K H d v
  | _,_, .nil,i,d,e=>by simp at e
  | _,_, .cons (v:=v) h r,0,d,e=>by simp at e; subst e; exact ⟨v,rfl,h⟩
  | _,_, .cons h r,i + 1,d,e=>by
    obtain ⟨v,a,b⟩:=Reps.get r (i:=i) (d:=d) (by simpa using e)
    exact ⟨v,by simpa using a,b⟩
theorem Reps.getV {K:PySem.W.Frag} {H:Hp}:∀ {ds:List D} {vs:List V},Reps K H ds vs→∀ {i:Nat} {v:V},vs[i]?=some v→∃ d,ds[i]?=some d∧Rep K H d v
  | _,_, .nil,i,d,e=>by simp at e
  | _,_, .cons (d:=d) h r,0,v,e=>by simp at e; subst e; exact ⟨d,rfl,h⟩
  | _,_, .cons h r,i + 1,v,e=>by
    obtain ⟨d,a,b⟩:=Reps.getV r (i:=i) (v:=v) (by simpa using e)
    exact ⟨d,by simpa using a,b⟩
theorem Reps.app {K:PySem.W.Frag} {H:Hp}:∀ {ds:List D} {vs:List V} {es:List D} {us:List V},Reps K H ds vs→Reps K H es us→Reps K H (ds ++ es) (vs ++ us)
  | _,_,_,_, .nil,r=>r
  | _,_,_,_, .cons h r,q => .cons h (Reps.app r q)
theorem Reps.one {K:PySem.W.Frag} {H:Hp} {d:D} {v:V} (h:Rep K H d v):Reps K H [d] [v] := .cons h .nil
theorem Reps.ints {K:PySem.W.Frag} {H:Hp}:∀ ns:List Int,Reps K H (ns.map D.int) (ns.map V.int)
  | [] => .nil
  | n :: ns => .cons (.int n) (Reps.ints ns)
mutual
def flat:D→Bool
  | .lst _=>false
  | .dct _ _=>false
  | .pdc _=>false
  | .tup xs=>flats xs
  | _=>true
def flats:List D→Bool
  | []=>true
  | d :: ds=>flat d && flats ds
end
def hide (P:List Addr) (H:Hp):Hp:=fun a=>if a ∈ P then none else H a
theorem hide_sub (P:List Addr) (H:Hp):Same (hide P H) H:=fun b o e=>by
  unfold hide at e
  split at e
  · cases e
  · exact e
theorem hide_get {P:List Addr} {H:Hp} {a:Addr} {o:HO} (h:H a=some o) (n:a ∉ P):hide P H a=some o:=by
  unfold hide; rw [if_neg n]; exact h
theorem of_hide {P:List Addr} {H:Hp} {a:Addr} {o:HO} (h:hide P H a=some o):a ∉ P∧H a=some o:=by
  unfold hide at h
  split at h
  · cases h
  · exact ⟨by assumption,h⟩
theorem hide_nil (H:Hp):hide [] H=H:=by funext a; simp [hide]
theorem hide_less {P P':List Addr} (H:Hp) (h:∀ a ∈ P',a ∈ P):Same (hide P H) (hide P' H):=fun b o e=>by
  obtain ⟨n,e⟩:=of_hide e
  exact hide_get e fun z=>n (h b z)
def mutO:HO→Bool
  | .lst _=>true
  | .dK _=>true
  | .dT _=>true
  | _=>false
abbrev MO:={o:HO // mutO o=true}
def mL (vs:List V):MO:=⟨.lst vs,rfl⟩
def mD (kvs:List (Key × V)):MO:=⟨.dK kvs,rfl⟩
def mT (kvs:List (List Key × V)):MO:=⟨.dT kvs,rfl⟩
def Lists (H:Hp) (P:List Addr):Prop := ∀ p ∈ P, ∃ o:MO,H p=some o.1
theorem Lists.mono {H H':Hp} {P:List Addr} (h:Lists H P) (e:Same H H'):Lists H' P:=fun p hp=>let ⟨vs,q⟩:=h p hp; ⟨vs,e _ _ q⟩
theorem SqT.hid {K:PySem.W.Frag} {H:Hp} {P:List Addr} {a:Addr} {xs:List V} (m:Lists H P) (h:SqT K H a xs):SqT K (hide P H) a xs:=by
  rcases h with (h | ⟨o,h⟩) | h
  · exact .inl (.inl (hide_get h fun z=>by obtain ⟨⟨vs,w⟩,q⟩:=m _ z; rw [q] at h; cases h; cases w))
  · exact .inl (.inr ⟨o,hide_get h fun z=>by obtain ⟨⟨vs,w⟩,q⟩:=m _ z; rw [q] at h; cases h; cases w⟩)
  · exact .inr h
mutual
theorem Rep.hid {K:PySem.W.Frag} {H:Hp} {P:List Addr} (m:Lists H P):∀ {d:D} {v:V},flat d=true→Rep K H d v→Rep K (hide P H) d v
  | _,_,_, .non => .non
  | _,_,_, .bl b => .bl b
  | _,_,_, .int i => .int i
  | _,_,_, .str x => .str x
  | _,_,f, .tup h r => .tup (SqT.hid m h) (Reps.hid m (by simpa [flat] using f) r)
  | _,_,f, .lst h r=>by simp [flat] at f
  | _,_,f, .dct _ h r=>by simp [flat] at f
  | _,_,f, .pdc h=>by simp [flat] at f
theorem Reps.hid {K:PySem.W.Frag} {H:Hp} {P:List Addr} (m:Lists H P):∀ {ds:List D} {vs:List V},flats ds=true→Reps K H ds vs→Reps K (hide P H) ds vs
  | _,_,_, .nil => .nil
  | _,_,f, .cons h r=>by
    simp [flats] at f
    exact .cons (Rep.hid m f.1 h) (Reps.hid m f.2 r)
end
mutual
inductive RepD (K:PySem.W.Frag) (H0 H:Hp):D→V→List Addr→Prop
  | flat {d:D} {v:V}:flat d=true→Rep K H0 d v→RepD K H0 H d v []
  | tup {ds:List D} {p:Addr} {vs:List V} {B:List Addr}:SqT K H0 p vs→RepDs K H0 H ds vs B→RepD K H0 H (.tup ds) (.ref p) B
  | lst {ds:List D} {p:Addr} {vs:List V} {B:List Addr}:H p=some (.lst vs)→RepDs K H0 H ds vs B→RepD K H0 H (.lst ds) (.ref p) (p :: B)
  | dct {ks:List Key} {ds:List D} {p:Addr} {vs:List V} {B:List Addr}:ks.length=vs.length→H p=some (.dK (mkKV ks vs))→RepDs K H0 H ds vs B→RepD K H0 H (.dct ks ds) (.ref p) (p :: B)
  | pdc {ps:List (Int × Int)} {p:Addr}:H p=some (.dT (pkv ps))→RepD K H0 H (.pdc ps) (.ref p) [p]
inductive RepDs (K:PySem.W.Frag) (H0 H:Hp):List D→List V→List Addr→Prop
  | nil:RepDs K H0 H [] [] []
  | cons {d:D} {v:V} {ds:List D} {vs:List V} {B C:List Addr}:RepD K H0 H d v B→RepDs K H0 H ds vs C→RepDs K H0 H (d :: ds) (v :: vs) (B ++ C)
end
mutual
theorem RepD.mono {K:PySem.W.Frag} {H0 H H0' H':Hp} (e:Same H0 H0'):∀ {d:D} {v:V} {B:List Addr},RepD K H0 H d v B→(∀ p ∈ B, ∀ o,H p=some o→H' p=some o)→RepD K H0' H' d v B
  | _,_,_, .flat f r,_ => .flat f (Rep.mono e r)
  | _,_,_, .tup h r,k => .tup (SqT.mono e h) (RepDs.mono e r k)
  | _,_,_, .lst h r,k => .lst (k _ (List.mem_cons_self ..) _ h) (RepDs.mono e r fun p hp=>k p (List.mem_cons_of_mem _ hp))
  | _,_,_, .dct l h r,k => .dct l (k _ (List.mem_cons_self ..) _ h) (RepDs.mono e r fun p hp=>k p (List.mem_cons_of_mem _ hp))
  | _,_,_, .pdc h,k => .pdc (k _ (List.mem_cons_self ..) _ h)
theorem RepDs.mono {K:PySem.W.Frag} {H0 H H0' H':Hp} (e:Same H0 H0'):∀ {ds:List D} {vs:List V} {B:List Addr},RepDs K H0 H ds vs B→(∀ p ∈ B, ∀ o,H p=some o→H' p=some o)→RepDs K H0' H' ds vs B
  | _,_,_, .nil,_ => .nil
  | _,_,_, .cons h r,k => .cons (RepD.mono e h fun p hp=>k p (List.mem_append_left _ hp)) (RepDs.mono e r fun p hp=>k p (List.mem_append_right _ hp))
end
mutual
theorem RepD.rep {K:PySem.W.Frag} {H0 H H1:Hp} (e:Same H0 H1):∀ {d:D} {v:V} {B:List Addr},RepD K H0 H d v B→(∀ p ∈ B, ∀ o,H p=some o→H1 p=some o)→Rep K H1 d v
  | _,_,_, .flat f r,_=>Rep.mono e r
  | _,_,_, .tup h r,k => .tup (SqT.mono e h) (RepDs.rep e r k)
  | _,_,_, .lst h r,k => .lst (SqL.of (k _ (List.mem_cons_self ..) _ h)) (RepDs.rep e r fun p hp=>k p (List.mem_cons_of_mem _ hp))
  | _,_,_, .dct l h r,k => .dct l (k _ (List.mem_cons_self ..) _ h) (RepDs.rep e r fun p hp=>k p (List.mem_cons_of_mem _ hp))
  | _,_,_, .pdc h,k => .pdc (k _ (List.mem_cons_self ..) _ h)
theorem RepDs.rep {K:PySem.W.Frag} {H0 H H1:Hp} (e:Same H0 H1):∀ {ds:List D} {vs:List V} {B:List Addr},RepDs K H0 H ds vs B→(∀ p ∈ B, ∀ o,H p=some o→H1 p=some o)→Reps K H1 ds vs
  | _,_,_, .nil,_ => .nil
  | _,_,_, .cons h r,k => .cons (RepD.rep e h fun p hp=>k p (List.mem_append_left _ hp)) (RepDs.rep e r fun p hp=>k p (List.mem_append_right _ hp))
end
mutual
theorem RepD.lists {K:PySem.W.Frag} {H0 H:Hp}:∀ {d:D} {v:V} {B:List Addr},RepD K H0 H d v B→Lists H B
  | _,_,_, .flat f r=>fun p hp=>by cases hp
  | _,_,_, .tup h r=>RepDs.lists r
  | _,_,_, .lst h r=>fun p hp=>by
    rcases List.mem_cons.mp hp with rfl | hp
    · exact ⟨mL _,h⟩
    · exact RepDs.lists r p hp
  | _,_,_, .dct _ h r=>fun p hp=>by
    rcases List.mem_cons.mp hp with rfl | hp
    · exact ⟨mD _,h⟩
    · exact RepDs.lists r p hp
  | _,_,_, .pdc h=>fun p hp=>by
    rw [List.mem_singleton] at hp
    subst hp
    exact ⟨mT _,h⟩
theorem RepDs.lists {K:PySem.W.Frag} {H0 H:Hp}:∀ {ds:List D} {vs:List V} {B:List Addr},RepDs K H0 H ds vs B→Lists H B
  | _,_,_, .nil=>fun p hp=>by cases hp
  | _,_,_, .cons h r=>fun p hp=>(List.mem_append.mp hp).elim (RepD.lists h p) (RepDs.lists r p)
end
mutual
theorem RepD.hid {K:PySem.W.Frag} {H0 H:Hp} {P:List Addr} (m:Lists H P) (e:Same H0 H):∀ {d:D} {v:V} {B:List Addr},RepD K H0 H d v B→RepD K (hide P H) H d v B
  | _,_,_, .flat f r => .flat f (Rep.hid m f (Rep.mono e r))
  | _,_,_, .tup h r => .tup (SqT.hid m (SqT.mono e h)) (RepDs.hid m e r)
  | _,_,_, .lst h r => .lst h (RepDs.hid m e r)
  | _,_,_, .dct l h r => .dct l h (RepDs.hid m e r)
  | _,_,_, .pdc h => .pdc h
theorem RepDs.hid {K:PySem.W.Frag} {H0 H:Hp} {P:List Addr} (m:Lists H P) (e:Same H0 H):∀ {ds:List D} {vs:List V} {B:List Addr},RepDs K H0 H ds vs B→RepDs K (hide P H) H ds vs B
  | _,_,_, .nil => .nil
  | _,_,_, .cons h r => .cons (RepD.hid m e h) (RepDs.hid m e r)
end
theorem RepDs.of_flat {K:PySem.W.Frag} {H0 H:Hp}:∀ {ds:List D} {vs:List V},flats ds=true→Reps K H0 ds vs→RepDs K H0 H ds vs []
  | _,_,_, .nil => .nil
  | _,_,f, .cons h r=>by
    simp [flats] at f
    exact .cons (B:=[]) (C:=[]) (.flat f.1 h) (RepDs.of_flat f.2 r)
theorem Lists.app {H:Hp} {P Q:List Addr} (h:Lists H P) (k:Lists H Q):Lists H (P ++ Q):=fun p hp=>(List.mem_append.mp hp).elim (h p) (k p)
inductive Ev where
  | cl (d:D) | tm (d:D) | nw (xs:List D) | dn (d:D)
def Ev.d:Ev→D
  | .cl d=>d
  | .tm d=>d
  | .nw xs => .lst xs
  | .dn d=>d
def RepEv (K:PySem.W.Frag) (F A:List Addr) (H H':Hp):Ev→V→Prop
  | .cl d,v=>Rep K (hide (A ++ F) H') d v
  | .tm d,v=>Rep K (hide F H') d v
  | .nw xs,v => ∃ p vs,v = .ref p∧H p=none∧H' p=some (.lst vs)∧Reps K (hide (p :: (A ++ F)) H') xs vs
  | .dn d,v => ∃ B,B.Nodup∧(∀ b ∈ B,H b=none)∧RepD K (hide (B ++ (A ++ F)) H') H' d v B
theorem same_hide {P:List Addr} {H H':Hp} (e:Same H H'):Same (hide P H) (hide P H'):=fun b o h=>by
  obtain ⟨n,h⟩:=of_hide h
  exact hide_get (e _ _ h) n
theorem RepEv.mono {K:PySem.W.Frag} {F A:List Addr} {H H1 H2:Hp} {r:Ev} {v:V} (h:RepEv K F A H H1 r v) (e:Same H1 H2):RepEv K F A H H2 r v:=by
  cases r with
  | cl d=>exact Rep.mono (same_hide e) h
  | tm d=>exact Rep.mono (same_hide e) h
  | nw xs =>
    obtain ⟨p,vs,rfl,h1,h2,h3⟩:=h
    exact ⟨p,vs,rfl,h1,e _ _ h2,Reps.mono (same_hide e) h3⟩
  | dn d =>
    obtain ⟨B,h1,h2,h3⟩:=h
    exact ⟨B,h1,h2,RepD.mono (same_hide e) h3 fun p _ o q=>e _ _ q⟩
theorem RepEv.back {K:PySem.W.Frag} {F A:List Addr} {H0 H H1:Hp} {r:Ev} {v:V} (h:RepEv K F A H H1 r v) (e:Same H0 H):RepEv K F A H0 H1 r v:=by
  cases r with
  | cl d=>exact h
  | tm d=>exact h
  | nw xs =>
    obtain ⟨p,vs,rfl,h1,h2,h3⟩:=h
    refine ⟨p,vs,rfl,?_,h2,h3⟩
    cases q:H0 p with
    | none=>rfl
    | some o=>rw [e _ _ q] at h1; cases h1
  | dn d =>
    obtain ⟨B,h1,h2,h3⟩:=h
    exact ⟨B,h1,fun b hb=>Same.free e (h2 b hb),h3⟩
theorem RepEv.full {K:PySem.W.Frag} {F A:List Addr} {H H':Hp} {r:Ev} {v:V} (h:RepEv K F A H H' r v):Rep K H' r.d v:=by
  cases r with
  | cl d=>exact Rep.mono (hide_sub _ _) h
  | tm d=>exact Rep.mono (hide_sub _ _) h
  | nw xs =>
    obtain ⟨p,vs,rfl,h1,h2,h3⟩:=h
    exact .lst (SqL.of h2) (Reps.mono (hide_sub _ _) h3)
  | dn d =>
    obtain ⟨B,h1,h2,h3⟩:=h
    exact h3.rep (hide_sub _ _) fun _ _ _ q=>q
theorem notin_lists {H:Hp} {P:List Addr} {p:Addr} (m:Lists H P) (h:H p=none):p ∉ P:=fun z=>by
  obtain ⟨vs,q⟩:=m _ z
  rw [q] at h; cases h
theorem RepEv.cleanF {K:PySem.W.Frag} {F A:List Addr} {H H':Hp} {r:Ev} {v:V} (m:Lists H (A ++ F)) (h:RepEv K F A H H' r v):Rep K (hide F H') r.d v:=by
  cases r with
  | cl d=>exact Rep.mono (hide_less H' fun a z=>List.mem_append_right _ z) h
  | tm d=>exact h
  | nw xs =>
    obtain ⟨p,vs,rfl,h1,h2,h3⟩:=h
    have n:p ∉ F:=fun z=>notin_lists m h1 (List.mem_append_right _ z)
    exact .lst (SqL.of (hide_get h2 n)) (Reps.mono (hide_less H' fun a z=>List.mem_cons_of_mem _ (List.mem_append_right _ z)) h3)
  | dn d =>
    obtain ⟨B,h1,h2,h3⟩:=h
    refine h3.rep (hide_less H' fun a z=>List.mem_append_right _ (List.mem_append_right _ z)) fun b hb o q=>hide_get q fun z=>?_
    exact notin_lists m (h2 b hb) (List.mem_append_right _ z)
def Ev.ok:Ev→Bool
  | .cl _=>true
  | .tm d=>flat d
  | .nw _=>true
  | .dn _=>true
theorem RepEv.clean {K:PySem.W.Frag} {F A:List Addr} {H H':Hp} {r:Ev} {v:V} (m:Lists H (A ++ F)) (e:Same H H') (h:RepEv K F A H H' r v) (c:r.ok=true):Rep K (hide (A ++ F) H') r.d v:=by
  cases r with
  | cl d=>exact h
  | tm d =>
    have m':Lists H' (A ++ F):=m.mono e
    exact Rep.hid m' c (Rep.mono (hide_sub _ _) h)
  | nw xs =>
    obtain ⟨p,vs,rfl,h1,h2,h3⟩:=h
    have n:p ∉ A ++ F:=notin_lists m h1
    exact .lst (SqL.of (hide_get h2 n)) (Reps.mono (hide_less H' fun a z=>List.mem_cons_of_mem _ z) h3)
  | dn d =>
    obtain ⟨B,h1,h2,h3⟩:=h
    exact h3.rep (hide_less H' fun a z=>List.mem_append_right _ z) fun b hb o q=>hide_get q fun z=>notin_lists m (h2 b hb) z
inductive Sl where
  | no | val (d:D) | own (xs:List D) | dp (d:D)
abbrev Th:=List Sl
inductive RSl (K:PySem.W.Frag) (H0 H:Hp):Th→L2.St→List Addr→Prop
  | nil:RSl K H0 H [] [] []
  | no {x:Option V} {t:Th} {σ:L2.St} {A:List Addr}:RSl K H0 H t σ A→RSl K H0 H (.no :: t) (x :: σ) A
  | val {d:D} {v:V} {t:Th} {σ:L2.St} {A:List Addr}:Rep K H0 d v→RSl K H0 H t σ A→RSl K H0 H (.val d :: t) (some v :: σ) A
  | own {p:Addr} {vs:List V} {ds:List D} {t:Th} {σ:L2.St} {A:List Addr}:H p=some (.lst vs)→Reps K H0 ds vs→RSl K H0 H t σ A→RSl K H0 H (.own ds :: t) (some (.ref p) :: σ) (p :: A)
  | dp {d:D} {v:V} {B:List Addr} {t:Th} {σ:L2.St} {A:List Addr}:RepD K H0 H d v B→RSl K H0 H t σ A→RSl K H0 H (.dp d :: t) (some v :: σ) (B ++ A)
structure RS (K:PySem.W.Frag) (F:List Addr) (H:Hp) (A:List Addr) (t:Th) (σ:L2.St):Prop where
  mu:Lists H (A ++ F)
  nd:A.Nodup
  dj:∀ p ∈ A,p ∉ F
  rel:RSl K (hide (A ++ F) H) H t σ A
theorem RSl.mono {K:PySem.W.Frag} {H0 H H0' H':Hp} (e0:Same H0 H0'):∀ {t:Th} {σ:L2.St} {A:List Addr},RSl K H0 H t σ A→(∀ p ∈ A, ∀ o,H p=some o→H' p=some o)→RSl K H0' H' t σ A
  | _,_,_, .nil,_ => .nil
  | _,_,_, .no r,e => .no (RSl.mono e0 r e)
  | _,_,_, .val h r,e => .val (Rep.mono e0 h) (RSl.mono e0 r e)
  | _,_,_, .own h1 h2 r,e => .own (e _ (List.mem_cons_self ..) _ h1) (Reps.mono e0 h2) (RSl.mono e0 r fun p hp=>e p (List.mem_cons_of_mem _ hp))
  | _,_,_, .dp h r,e => .dp (RepD.mono e0 h fun p hp=>e p (List.mem_append_left _ hp)) (RSl.mono e0 r fun p hp=>e p (List.mem_append_right _ hp))
theorem RS.grow {K:PySem.W.Frag} {F A:List Addr} {H H':Hp} {t:Th} {σ:L2.St} (h:RS K F H A t σ) (e:Same H H'):RS K F H' A t σ :=
  ⟨h.mu.mono e,h.nd,h.dj,h.rel.mono (same_hide e) fun p _ o q=>e _ _ q⟩
theorem RSl.getVal {K:PySem.W.Frag} {H0 H:Hp}:∀ {t:Th} {σ:L2.St} {A:List Addr},RSl K H0 H t σ A→∀ {i:Nat} {d:D},t[i]?=some (.val d)→∃ v,σ[i]?=some (some v)∧Rep K H0 d v
  | _,_,_, .nil,i,d,e=>by simp at e
  | _,_,_, .no r,0,d,e=>by simp at e
  | _,_,_, .no r,i + 1,d,e=>by simpa using RSl.getVal r (i:=i) (by simpa using e)
  | _,_,_, .val (v:=v) h r,0,d,e=>by simp at e; subst e; exact ⟨v,rfl,h⟩
  | _,_,_, .val h r,i + 1,d,e=>by simpa using RSl.getVal r (i:=i) (by simpa using e)
  | _,_,_, .own _ _ r,0,d,e=>by simp at e
  | _,_,_, .own _ _ r,i + 1,d,e=>by simpa using RSl.getVal r (i:=i) (by simpa using e)
  | _,_,_, .dp _ r,0,d,e=>by simp at e
  | _,_,_, .dp _ r,i + 1,d,e=>by simpa using RSl.getVal r (i:=i) (by simpa using e)
theorem RSl.getOwn {K:PySem.W.Frag} {H0 H:Hp}:∀ {t:Th} {σ:L2.St} {A:List Addr},RSl K H0 H t σ A→∀ {i:Nat} {ds:List D},t[i]?=some (.own ds)→∃ p vs,σ[i]?=some (some (.ref p))∧p ∈ A∧H p=some (.lst vs)∧Reps K H0 ds vs
  | _,_,_, .nil,i,d,e=>by simp at e
  | _,_,_, .no r,0,d,e=>by simp at e
  | _,_,_, .no r,i + 1,d,e=>by simpa using RSl.getOwn r (i:=i) (by simpa using e)
  | _,_,_, .val (v:=v) h r,0,d,e=>by simp at e
  | _,_,_, .val h r,i + 1,d,e=>by simpa using RSl.getOwn r (i:=i) (by simpa using e)
  | _,_,_, .own (p:=p) (vs:=vs) h1 h2 r,0,d,e=>by simp at e; subst e; exact ⟨p,vs,rfl,List.mem_cons_self ..,h1,h2⟩
  | _,_,_, .own h1 h2 r,i + 1,d,e=>by
    obtain ⟨p,vs,a,b,c,f⟩:=RSl.getOwn r (i:=i) (ds:=d) (by simpa using e)
    exact ⟨p,vs,by simpa using a,List.mem_cons_of_mem _ b,c,f⟩
  | _,_,_, .dp _ r,0,d,e=>by simp at e
  | _,_,_, .dp _ r,i + 1,d,e=>by
    obtain ⟨p,vs,a,b,c,f⟩:=RSl.getOwn r (i:=i) (ds:=d) (by simpa using e)
    exact ⟨p,vs,by simpa using a,List.mem_append_right _ b,c,f⟩
theorem RSl.getDp {K:PySem.W.Frag} {H0 H:Hp}:∀ {t:Th} {σ:L2.St} {A:List Addr},RSl K H0 H t σ A→A.Nodup→∀ {i:Nat} {d:D},t[i]?=some (.dp d)→∃ v B,σ[i]?=some (some v)∧(∀ b ∈ B,b ∈ A)∧B.Nodup∧RepD K H0 H d v B
  | _,_,_, .nil,n,i,d,e=>by simp at e
  | _,_,_, .no r,n,0,d,e=>by simp at e
  | _,_,_, .no r,n,i + 1,d,e=>by simpa using RSl.getDp r n (i:=i) (by simpa using e)
  | _,_,_, .val (v:=v) h r,n,0,d,e=>by simp at e
  | _,_,_, .val h r,n,i + 1,d,e=>by simpa using RSl.getDp r n (i:=i) (by simpa using e)
  | _,_,_, .own _ _ r,n,0,d,e=>by simp at e
  | _,_,_, .own _ _ r,n,i + 1,d,e=>by
    obtain ⟨v,B,a,b,n',c⟩:=RSl.getDp r (List.nodup_cons.mp n).2 (i:=i) (d:=d) (by simpa using e)
    exact ⟨v,B,by simpa using a,fun x hx=>List.mem_cons_of_mem _ (b x hx),n',c⟩
  | _,_,_, .dp (v:=v) (B:=B) h r,n,0,d,e=>by simp at e; subst e; exact ⟨v,B,rfl,fun x hx=>List.mem_append_left _ hx,(List.nodup_append.mp n).1,h⟩
  | _,_,_, .dp h r,n,i + 1,d,e=>by
    obtain ⟨v,B,a,b,n',c⟩:=RSl.getDp r (List.nodup_append.mp n).2.1 (i:=i) (d:=d) (by simpa using e)
    exact ⟨v,B,by simpa using a,fun x hx=>List.mem_append_right _ (b x hx),n',c⟩
structure Gr (A:List Addr) (H:Hp) (A':List Addr) (H':Hp):Prop where
  kp:∀ b o,b ∉ A→H b=some o→H' b=some o
  al:∀ b ∈ A,H' b ≠ none
  nw:∀ b ∈ A',b ∈ A ∨ H b=none
theorem Gr.refl {A:List Addr} {H:Hp} (m:Lists H A):Gr A H A H:=⟨fun _ _ _ h=>h,fun b hb=>by obtain ⟨vs,q⟩:=m b hb; rw [q]; simp,fun b h => .inl h⟩
theorem Gr.of_same {A:List Addr} {H H':Hp} (m:Lists H A) (e:Same H H'):Gr A H A H':=⟨fun _ _ _ h=>e _ _ h,fun b hb=>by obtain ⟨vs,q⟩:=m b hb; rw [e _ _ q]; simp,fun b h => .inl h⟩
theorem Gr.trans {A A1 A2:List Addr} {H H1 H2:Hp} (a:Gr A H A1 H1) (b:Gr A1 H1 A2 H2):Gr A H A2 H2 where
  kp:=fun x o n h=>b.kp x o (fun z=>by rcases a.nw x z with q | q; exact n q; rw [q] at h; cases h) (a.kp x o n h)
  al:=fun x hx=>by
    by_cases z:x ∈ A1
    · exact b.al x z
    · have:=a.al x hx
      cases q:H1 x with
      | none=>exact absurd q this
      | some o=>rw [b.kp x o z q]; simp
  nw:=fun x hx=>by
    rcases b.nw x hx with q | q
    · exact a.nw x q
    · by_cases z:x ∈ A
      · exact .inl z
      · refine .inr ?_
        cases w:H x with
        | none=>rfl
        | some o=>rw [a.kp x o z w] at q; cases q
theorem Gr.same {F A A':List Addr} {H H':Hp} (g:Gr A H A' H'):Same (hide (A ++ F) H) (hide (A' ++ F) H'):=fun b o h=>by
  obtain ⟨n,h⟩:=of_hide h
  have n1:b ∉ A:=fun z=>n (List.mem_append_left _ z)
  refine hide_get (g.kp b o n1 h) fun z=>?_
  rcases List.mem_append.mp z with z | z
  · rcases g.nw b z with q | q
    · exact n1 q
    · rw [q] at h; cases h
  · exact n (List.mem_append_right _ z)
end DL
namespace DL
open PySem PySem.Spec PyProof.Rows L2
abbrev DE:=Th→Option Ev
def dE (K:PySem.W.Frag) (F:List Addr) (f:DE):TE:=fun σ H Q => ∃ A t r,RS K F H A t σ∧f t=some r∧∀ v H',Same H H'→RepEv K F A H H' r v→Q v H'
theorem PE.imp {X:Cx} {e:Expr} {t t':TE} (h:PE X e t) (i:∀ σ H Q,t' σ H Q→t σ H Q):PE X e t':=fun pins s σ H Q I q=>h pins s σ H Q I (i σ H Q q)
section
variable {X:Cx} {F:List Addr} {a b c:Expr} {fa fb fc:DE} {pos:Pos}
def dVar (i:Nat):DE:=fun t=>match t[i]? with
  | some (.val d)=>some (.cl d)
  | some (.own xs)=>some (.tm (.lst xs))
  | some (.dp d)=>some (.tm d)
  | _=>none
theorem ped_var (i:Nat) {x:Str} (hN:X.N[i]?=some x:=by rfl) (hv:Vis X.env.scope x:=by first | exact Or.inl rfl | exact Or.inr (Or.inl rfl) | exact Or.inr (Or.inr rfl)) (hd:(x == ("__debug__":Str))=false:=by decide)
    (hcd:(x == ("__classdict__":Str))=false:=by decide):PE X (.Name x pos) (dE X.K F (dVar i)):=by
  refine PE.imp (pe_var (i:=i) hN hv hd hcd) ?_
  rintro σ H Q ⟨A,t,r,R,e,h⟩
  unfold dVar at e
  split at e
  · rename_i d q
    cases e
    obtain ⟨v,h1,h2⟩:=R.rel.getVal q
    exact ⟨v,h1,h v H (Same.refl H) h2⟩
  · rename_i ds q
    cases e
    obtain ⟨p,vs,h1,h2,h3,h4⟩:=R.rel.getOwn q
    refine ⟨_,h1,h _ H (Same.refl H) ?_⟩
    exact .lst (SqL.of (hide_get h3 (R.dj p h2))) (Reps.mono (hide_less H fun a z=>List.mem_append_right _ z) h4)
  · rename_i d q
    cases e
    obtain ⟨v,B,h1,h2,h0,h3⟩:=R.rel.getDp R.nd q
    refine ⟨_,h1,h _ H (Same.refl H) ?_⟩
    exact h3.rep (hide_less H fun a z=>List.mem_append_right _ z) fun b hb o w=>hide_get w (R.dj b (h2 b hb))
  · cases e
def dC (d:D):DE:=fun _=>some (.cl d)
theorem ped_int {i j pos}:PE X (.Constant (.int i) j pos) (dE X.K F (dC (.int i))):=PE.imp pe_int fun σ H Q ⟨A,t,r,R,e,h⟩=>by cases e; exact h _ H (Same.refl H) (.int i)
theorem ped_bl {b j pos}:PE X (.Constant (.bool b) j pos) (dE X.K F (dC (.bl b))):=PE.imp pe_bl fun σ H Q ⟨A,t,r,R,e,h⟩=>by cases e; exact h _ H (Same.refl H) (.bl b)
theorem ped_gint {x:Str} {i:Int} {u:Value} (hg:Gl X x) (hm:X.mg x=some u) (r:RelV (.int i) u) (hd:(x == ("__debug__":Str))=false:=by decide):PE X (.Name x pos) (dE X.K F (dC (.int i))) :=
  PE.imp (pe_glob hg hm r hd) fun σ H Q ⟨A,t,r,R,e,h⟩=>by cases e; exact h _ H (Same.refl H) (.int i)
def OpD (X:Cx) (F:List Addr) (f:Value→Value→Sem Value) (k:Ev→Ev→Option Ev):Prop :=
  ∀ (pins:List (Addr × Obj)) (s:Shared) (σ:L2.St) (H0 H:Hp) (A:List Addr) (x y:V) (v u:Value) (Q:VK) (r1 r2 r:Ev),Inv X pins σ H s→Lists H0 (A ++ F)→Same H0 H→RelV x v→RelV y u →
    RepEv X.K F A H0 H r1 x→RepEv X.K F A H0 H r2 y→k r1 r2=some r→(∀ z H',Same H H'→RepEv X.K F A H0 H' r z→Q z H')→wpAny (model X.prog X.w) X.A (f v u) (EP X pins σ Q) X.xe s
def d2 (k:Ev→Ev→Option Ev) (fa fb:DE):DE:=fun t=>(fa t).bind fun r1=>(fb t).bind fun r2=>k r1 r2
theorem two {k:Ev→Ev→Option Ev} {σ:L2.St} {H:Hp} {Q:VK} (h:dE X.K F (d2 k fa fb) σ H Q):∃ A t r1 r2 r,RS X.K F H A t σ∧fa t=some r1∧fb t=some r2∧k r1 r2=some r ∧
    (∀ v H',Same H H'→RepEv X.K F A H H' r v→Q v H')∧dE X.K F fa σ H fun x H1=>dE X.K F fb σ H1 fun y H2=>Same H H2∧RepEv X.K F A H H2 r1 x∧RepEv X.K F A H H2 r2 y:=by
  obtain ⟨A,t,r,R,e,h⟩:=h
  unfold d2 at e
  cases e1:fa t with
  | none=>rw [e1] at e; cases e
  | some r1 =>
    cases e2:fb t with
    | none=>rw [e1,e2] at e; cases e
    | some r2 =>
      rw [e1,e2] at e
      exact ⟨A,t,r1,r2,r,R,e1,e2,e,h,A,t,r1,R,e1,fun x H1 g1 q1=>⟨A,t,r2,R.grow g1,e2,fun y H2 g2 q2=>⟨g1.trans g2,q1.mono g2,q2.back g1⟩⟩⟩
theorem ped_op {op:Operator} {k:Ev→Ev→Option Ev} (ho:OpD X F (binaryOp op) k) (ha:PE X a (dE X.K F fa)) (hb:PE X b (dE X.K F fb)):PE X (.BinOp a op b pos) (dE X.K F (d2 k fa fb)):=by
  intro pins s σ H Q I h
  obtain ⟨A,t,r1,r2,r,R,e1,e2,e,h,w⟩:=two h
  refine wpAny_BinOp (bin ha hb I w fun v u s2 x y H2 I2 rx ry q=>?_)
  obtain ⟨g,q1,q2⟩:=q
  exact ho pins s2 σ H H2 A x y v u Q r1 r2 r I2 R.mu g rx ry q1 q2 e fun z H' g'=>h z H' (g.trans g')
theorem ped_cmp {op:CmpOp} {k:Ev→Ev→Option Ev} (ho:OpD X F (compareOp op) k) (ha:PE X a (dE X.K F fa)) (hb:PE X b (dE X.K F fb)) (hm:behindInMarks op b=false:=by first | exact nomark _ | (with_unfolding_all rfl)) :
    PE X (.Compare a [op] [b] pos) (dE X.K F (d2 k fa fb)):=by
  intro pins s σ H Q I h
  obtain ⟨A,t,r1,r2,r,R,e1,e2,e,h,w⟩:=two h
  refine wpAny_Compare1 (bin ha hb I w fun v u s2 x y H2 I2 rx ry q=>?_) hm
  obtain ⟨g,q1,q2⟩:=q
  exact ho pins s2 σ H H2 A x y v u Q r1 r2 r I2 R.mu g rx ry q1 q2 e fun z H' g'=>h z H' (g.trans g')
def kI (C:Int→Int→Bool) (g:Int→Int→D):Ev→Ev→Option Ev:=fun r1 r2=>match r1.d,r2.d with
  | .int i, .int j=>if C i j then some (.cl (g i j)) else none
  | _,_=>none
theorem rep_int {K:PySem.W.Frag} {H:Hp} {i:Int} {v:V} (h:Rep K H (.int i) v):v = .int i:=by cases h; rfl
theorem opd_I {f:Value→Value→Sem Value} {C:Int→Int→Prop} {g:Int→Int→V} {C':Int→Int→Bool} {g':Int→Int→D} (h:OpR X f (rI C g)) (hc:∀ i j,C' i j=true→C i j)
    (hg:∀ H i j,Rep X.K H (g' i j) (g i j)):OpD X F f (kI C' g'):=by
  intro pins s σ H0 H A x y v u Q r1 r2 r I m g0 rx ry q1 q2 e hq
  have p1:=q1.full
  have p2:=q2.full
  unfold kI at e
  split at e
  · rename_i i j d1 d2
    split at e
    · rename_i c
      cases e
      rw [d1] at p1; rw [d2] at p2
      cases rep_int p1; cases rep_int p2
      exact h pins s σ H _ _ v u Q I rx ry ⟨i,j,rfl,rfl,hc i j c,hq _ H (Same.refl H) (hg _ i j)⟩
    · cases e
  · cases e
theorem rI_of {f:Value→Value→Sem Value} {g:Int→Int→V} (h:OpR X f (rI0 g)):OpR X f (rI (fun _ _=>True) g):=fun pins s σ H x y v u Q I rx ry ⟨i,j,e1,e2,_,q⟩=>h pins s σ H x y v u Q I rx ry ⟨i,j,e1,e2,q⟩
def tt2:Int→Int→Bool:=fun _ _=>true
theorem od_add:OpD X F (binaryOp .Add) (kI tt2 fun i j => .int (i + j)):=opd_I (rI_of op_add) (fun _ _ _=>trivial) fun _ _ _ => .int _
theorem od_sub:OpD X F (binaryOp .Sub) (kI tt2 fun i j => .int (i - j)):=opd_I (rI_of op_sub) (fun _ _ _=>trivial) fun _ _ _ => .int _
def bnd:Nat:=2 ^ 4096
def sm (i:Int):Bool:=decide (i.natAbs < bnd)
def cMul (i j:Int):Bool:=sm i && sm j
def cDiv (_ j:Int):Bool:=sm j && decide (j ≠ 0)
theorem log2_le {n k:Nat} (h:n < 2 ^ k):n.log2 ≤ k:=by
  by_cases z:n=0
  · subst z; simp
  · exact Nat.le_of_lt ((Nat.log2_lt z).mpr h)
theorem cMul.ok {i j:Int} (h:cMul i j=true):IntMulOk i j:=by
  simp only [cMul,sm,Bool.and_eq_true,decide_eq_true_eq] at h
  refine mulOk_of_bits (m:=4097) (n:=4097) ?_ ?_ (by decide)
  · exact intBits_le (Nat.lt_of_lt_of_le h.1 (by unfold bnd; exact Nat.pow_le_pow_right (by decide) (by decide)))
  · exact intBits_le (Nat.lt_of_lt_of_le h.2 (by unfold bnd; exact Nat.pow_le_pow_right (by decide) (by decide)))
theorem od_mul:OpD X F (binaryOp .Mult) (kI cMul fun i j => .int (i * j)):=opd_I (C:=IntMulOk) (opI fun _ _ _ _ _ _ _ hc q=>mul_int q hc) (fun _ _ h=>cMul.ok h) fun _ _ _ => .int _
theorem cDiv.ok {i j:Int} (h:cDiv i j=true):j ≠ 0∧j.natAbs.log2 < 9000:=by
  simp only [cDiv,sm,Bool.and_eq_true,decide_eq_true_eq] at h
  have:=log2_le h.1
  exact ⟨h.2,by omega⟩
theorem od_div:OpD X F (binaryOp .FloorDiv) (kI cDiv fun i j => .int (i.fdiv j)):=opd_I (C:=fun _ j=>j ≠ 0∧j.natAbs.log2 < 9000) (opI fun _ _ _ _ _ _ _ hc q=>floordiv_int hc.1 q (.inl (PyProof.noPylong_of_log2 hc.2))) (fun _ _ h=>cDiv.ok h) fun _ _ _ => .int _
def cMod (_ j:Int):Bool:=decide (j ≠ 0)
theorem od_mod:OpD X F (binaryOp .Mod) (kI cMod fun i j => .int (i.fmod j)):=opd_I op_modN (fun i j h=>by simpa [cMod] using h) fun _ _ _ => .int _
def cPow (i j:Int):Bool:=decide (0 ≤ j∧j ≤ 1000∧i.natAbs < 18446744073709551616)
theorem od_pow:OpD X F (binaryOp .Pow) (kI cPow fun i j => .int (i ^ j.toNat)):=opd_I op_pow (fun i j h=>by
  simp only [cPow,decide_eq_true_eq] at h
  exact ⟨h.1,by omega,by show i.natAbs < 2 ^ 64; omega⟩) fun _ _ _ => .int _
theorem od_lt:OpD X F (compareOp .Lt) (kI tt2 fun i j => .bl (decide (i < j))):=opd_I (rI_of op_lt) (fun _ _ _=>trivial) fun _ _ _ => .bl _
theorem od_le:OpD X F (compareOp .LtE) (kI tt2 fun i j => .bl (decide (i ≤ j))):=opd_I (rI_of op_le) (fun _ _ _=>trivial) fun _ _ _ => .bl _
theorem od_gt:OpD X F (compareOp .Gt) (kI tt2 fun i j => .bl (decide (j < i))):=opd_I (rI_of op_gt) (fun _ _ _=>trivial) fun _ _ _ => .bl _
def kOr (k k':Ev→Ev→Option Ev):Ev→Ev→Option Ev:=fun r1 r2=>match k r1 r2 with
  | some r=>some r
  | none=>k' r1 r2
theorem OpD.or {f:Value→Value→Sem Value} {k k':Ev→Ev→Option Ev} (h:OpD X F f k) (h':OpD X F f k'):OpD X F f (kOr k k'):=by
  intro pins s σ H0 H A x y v u Q r1 r2 r I m g0 rx ry q1 q2 e hq
  unfold kOr at e
  split at e
  · rename_i z
    cases e
    exact h pins s σ H0 H A x y v u Q r1 r2 _ I m g0 rx ry q1 q2 z hq
  · exact h' pins s σ H0 H A x y v u Q r1 r2 _ I m g0 rx ry q1 q2 e hq
def d1 (k:Ev→Option Ev) (fa:DE):DE:=fun t=>(fa t).bind k
def kNeg:Ev→Option Ev:=fun r=>match r.d with
  | .int i=>some (.cl (.int (-i)))
  | _=>none
theorem ped_neg (ha:PE X a (dE X.K F fa)):PE X (.UnaryOp .USub a pos) (dE X.K F (d1 kNeg fa)):=by
  refine PE.imp (pe_un un_neg ha) ?_
  rintro σ H Q ⟨A,t,r,R,e,h⟩
  unfold d1 at e
  cases e1:fa t with
  | none=>rw [e1] at e; cases e
  | some r1 =>
    rw [e1] at e
    refine ⟨A,t,r1,R,e1,fun x H1 g1 q1=>?_⟩
    have e:kNeg r1=some r:=e
    unfold kNeg at e
    split at e
    · rename_i i z
      cases e
      have p:=q1.full
      rw [z] at p
      exact ⟨i,rep_int p,h _ H1 g1 (.int _)⟩
    · cases e
end
end DL
namespace DL
open PySem PySem.Spec PyProof.Rows L2
inductive RepEvs (K:PySem.W.Frag) (F A:List Addr) (H H':Hp):List Ev→List V→Prop
  | nil:RepEvs K F A H H' [] []
  | cons {r:Ev} {v:V} {rs:List Ev} {vs:List V}:RepEv K F A H H' r v→RepEvs K F A H H' rs vs→RepEvs K F A H H' (r :: rs) (v :: vs)
theorem RepEvs.back {K:PySem.W.Frag} {F A:List Addr} {H0 H H1:Hp} (e:Same H0 H):∀ {rs:List Ev} {vs:List V},RepEvs K F A H H1 rs vs→RepEvs K F A H0 H1 rs vs
  | _,_, .nil => .nil
  | _,_, .cons h r => .cons (h.back e) (RepEvs.back e r)
theorem RepEvs.full {K:PySem.W.Frag} {F A:List Addr} {H H':Hp}:∀ {rs:List Ev} {vs:List V},RepEvs K F A H H' rs vs→Reps K H' (rs.map Ev.d) vs
  | _,_, .nil => .nil
  | _,_, .cons h r => .cons h.full (RepEvs.full r)
theorem RepEvs.cleanF {K:PySem.W.Frag} {F A:List Addr} {H H':Hp} (m:Lists H (A ++ F)):∀ {rs:List Ev} {vs:List V},RepEvs K F A H H' rs vs→Reps K (hide F H') (rs.map Ev.d) vs
  | _,_, .nil => .nil
  | _,_, .cons h r => .cons (h.cleanF m) (RepEvs.cleanF m r)
theorem RepEvs.clean {K:PySem.W.Frag} {F A:List Addr} {H H':Hp} (m:Lists H (A ++ F)) (e:Same H H'):∀ {rs:List Ev} {vs:List V},RepEvs K F A H H' rs vs→rs.all Ev.ok=true→Reps K (hide (A ++ F) H') (rs.map Ev.d) vs
  | _,_, .nil,_ => .nil
  | _,_, .cons h r,c=>by
    simp only [List.all_cons,Bool.and_eq_true] at c
    exact .cons (h.clean m e c.1) (RepEvs.clean m e r c.2)
abbrev DA:=Th→Option (List Ev)
def dA (K:PySem.W.Frag) (F:List Addr) (f:DA):TA:=fun σ H Q => ∃ A t rs,RS K F H A t σ∧f t=some rs∧∀ vs H',Same H H'→RepEvs K F A H H' rs vs→Q vs H'
theorem PA.imp {X:Cx} {e:List Expr} {t t':TA} (h:PA X e t) (i:∀ σ H Q,t' σ H Q→t σ H Q):PA X e t':=fun pos pins s σ H Q I q=>h pos pins s σ H Q I (i σ H Q q)
def dNil:DA:=fun _=>some []
def dCons (f:DE) (g:DA):DA:=fun t=>(f t).bind fun r=>(g t).bind fun rs=>some (r :: rs)
section
variable {X:Cx} {F:List Addr} {a b c:Expr} {es:List Expr} {fa fb fc:DE} {g:DA} {pos:Pos}
theorem pad_nil:PA X [] (dA X.K F dNil):=PA.imp pa_nil fun σ H Q ⟨A,t,rs,R,e,h⟩=>by cases e; exact h [] H (Same.refl H) .nil
theorem pad_cons (ha:PE X a (dE X.K F fa)) (hr:PA X es (dA X.K F g)) (hs:starEach (a :: es) X.env=(false,eval a X.env) :: starEach es X.env:=by rfl):PA X (a :: es) (dA X.K F (dCons fa g)):=by
  refine PA.imp (pa_cons ha hr hs) ?_
  rintro σ H Q ⟨A,t,rs,R,e,h⟩
  unfold dCons at e
  cases e1:fa t with
  | none=>rw [e1] at e; cases e
  | some r1 =>
    cases e2:g t with
    | none=>rw [e1,e2] at e; cases e
    | some rs2 =>
      rw [e1,e2] at e
      cases e
      exact ⟨A,t,r1,R,e1,fun x H1 g1 q1=>⟨A,t,rs2,R.grow g1,e2,fun xs H2 g2 q2=>h _ _ (g1.trans g2) (.cons (q1.mono g2) (q2.back g1))⟩⟩
def dT1 (k:List Ev→Option Ev) (g:DA):DE:=fun t=>(g t).bind k
theorem RepEvs.length {K:PySem.W.Frag} {F A:List Addr} {H H':Hp}:∀ {rs:List Ev} {vs:List V},RepEvs K F A H H' rs vs→vs.length=rs.length
  | _,_, .nil=>rfl
  | _,_, .cons _ r=>by simp [RepEvs.length r]
theorem le_line {n:Nat} (h:n ≤ 100000):n ≤ sizeLine:=Nat.le_trans h (by rw [sizeLine_eq]; decide)
theorem upd_sameH {H:Hp} {p:Addr} {o:HO} (h:H p=none):Same H (upd H p o):=fun b u e=>by rw [upd_ne (fun z=>by rw [z,h] at e; cases e)]; exact e
def kLst:List Ev→Option Ev:=fun rs=>if rs.length ≤ 1000∧rs.all Ev.ok then some (.nw (rs.map Ev.d)) else none
theorem hide_upd {P:List Addr} {H:Hp} {p:Addr} {o:HO} (h:H p=none):Same (hide P H) (hide (p :: P) (upd H p o)):=fun b u e=>by
  obtain ⟨n,e⟩:=of_hide e
  have nb:b ≠ p:=fun z=>by rw [z,h] at e; cases e
  refine hide_get (by rw [upd_ne nb]; exact e) fun z=>?_
  rcases List.mem_cons.mp z with z | z
  · exact nb z
  · exact n z
theorem ped_lst (h:PA X es (dA X.K F g)):PE X (.List es pos) (dE X.K F (dT1 kLst g)):=by
  refine PE.imp (pe_lst h) ?_
  rintro σ H Q ⟨A,t,r,R,e,h⟩
  unfold dT1 at e
  cases e1:g t with
  | none=>rw [e1] at e; cases e
  | some rs =>
    rw [e1] at e
    have e:kLst rs=some r:=e
    unfold kLst at e
    split at e
    case isFalse=>cases e
    rename_i hl
    cases e
    refine ⟨A,t,rs,R,e1,fun vs H1 g1 q1=>⟨by rw [q1.length]; exact le_line (by omega),fun p hp=>?_⟩⟩
    have s1:=upd_sameH (o:=HO.lst vs) hp
    refine h _ _ (g1.trans s1) ⟨p,vs,rfl,?_,upd_same,Reps.mono (hide_upd hp) (q1.clean R.mu g1 hl.2)⟩
    exact Same.free g1 hp
def spD (K:PySem.W.Frag) (G:List D→Option Ev):Sp:=fun vs H Q _ => ∃ Fo ds r,Lists H Fo∧Reps K (hide Fo H) ds vs∧G ds=some r∧∀ v H',Same H H'→RepEv K Fo [] H H' r v→Q v H'
def upEv (ok:Bool) (r:Ev):Ev:=if ok then (match r with
    | .cl d => .cl d
    | .tm d => .cl d
    | .nw xs => .nw xs
    | .dn d => .dn d) else match r with
    | .cl d=>if flat d then .cl d else .tm d
    | .tm d=>if flat d then .cl d else .tm d
    | .nw xs=>if flats xs then .nw xs else .tm (.lst xs)
    | .dn d => .dn d
def kCall (G:List D→Option Ev):List Ev→Option Ev:=fun rs=>(G (rs.map Ev.d)).map (upEv (rs.all Ev.ok))
theorem call_up {K:PySem.W.Frag} {A:List Addr} {G:List D→Option Ev} {H0 H:Hp} {rs:List Ev} {r:Ev} {vs:List V} {Q:VK} {E:XK} (m:Lists H0 (A ++ F)) (g:Same H0 H) (q:RepEvs K F A H0 H rs vs) (e:kCall G rs=some r)
    (h:∀ v H',Same H H'→RepEv K F A H0 H' r v→Q v H'):spD K G vs H Q E:=by
  unfold kCall at e
  cases e1:G (rs.map Ev.d) with
  | none=>rw [e1] at e; cases e
  | some r0 =>
    rw [e1] at e
    have e:upEv (rs.all Ev.ok) r0=r:=by simpa using e
    have mH:=m.mono g
    by_cases c:rs.all Ev.ok=true
    · refine ⟨A ++ F,rs.map Ev.d,r0,mH,q.clean m g c,e1,fun v H' g' w=>h v H' g' ?_⟩
      rw [c] at e
      subst e
      cases r0 with
      | cl d=>exact w
      | tm d=>exact w
      | nw xs =>
        obtain ⟨p,us,rfl,h1,h2,h3⟩:=w
        exact ⟨p,us,rfl,Same.free g h1,h2,h3⟩
      | dn d =>
        obtain ⟨B,h1,h2,h3⟩:=w
        exact ⟨B,h1,fun b hb=>Same.free g (h2 b hb),h3⟩
    · refine ⟨F,rs.map Ev.d,r0,fun p hp=>mH p (List.mem_append_right _ hp),q.cleanF m,e1,fun v H' g' w=>h v H' g' ?_⟩
      have c:rs.all Ev.ok=false:=by simpa using c
      rw [c] at e
      subst e
      have m':=mH.mono g'
      cases r0 with
      | cl d =>
        show RepEv K F A H0 H' (if flat d then .cl d else .tm d) v
        split
        · rename_i f; exact Rep.hid m' f (Rep.mono (hide_sub _ _) w)
        · exact w
      | tm d =>
        show RepEv K F A H0 H' (if flat d then .cl d else .tm d) v
        split
        · rename_i f; exact Rep.hid m' f (Rep.mono (hide_sub _ _) w)
        · exact w
      | nw xs =>
        obtain ⟨p,us,rfl,h1,h2,h3⟩:=w
        have np:p ∉ A ++ F:=notin_lists mH h1
        show RepEv K F A H0 H' (if flats xs then .nw xs else .tm (.lst xs)) _
        split
        · rename_i f
          refine ⟨p,us,rfl,Same.free g h1,h2,Reps.hid (P:=p :: (A ++ F)) (fun b hb=>?_) f (Reps.mono (hide_sub _ _) h3)⟩
          rcases List.mem_cons.mp hb with rfl | hb
          · exact ⟨mL us,h2⟩
          · exact m' b hb
        · exact .lst (SqL.of (hide_get h2 fun z=>np (List.mem_append_right _ z))) (Reps.mono (hide_less H' fun b z=>List.mem_cons_of_mem _ z) h3)
      | dn d =>
        obtain ⟨B,h1,h2,h3⟩:=w
        exact ⟨B,h1,fun b hb=>Same.free g (h2 b hb),h3.hid (h3.lists.app m') (hide_sub _ _)⟩
theorem ped_call {k:Nat} {f:Addr} {fd:FuncData} {ps:List Str} {G:List D→Option Ev} {x:Str} {p:Pos} (Fn:FnOk X.prog X.w X.K X.mg X.base CX0 k f fd ps (spD X.K G)) (hr:Room k X.A) (hg:Gl X x) (hm:X.mg x=some (.ref f)) (hk:PySem.W.keepIn X.K (.ref f)=true)
    (hb:Binds X.K fd ps []) (ha:PA X (a :: es) (dA X.K F g)) (hdb:(x == ("__debug__":Str))=false:=by decide) (he:starEach (a :: es) X.env=(false,eval a X.env) :: starEach es X.env:=by rfl)
    (hpl:(backTo pos (starEach es X.env)).any (·.1)=false:=by rfl):PE X (.Call (.Name x p) (a :: es) [] pos) (dE X.K F (dT1 (kCall G) g)):=by
  refine PE.imp (pe_call Fn hr hg hm hk hb .nil (E:=E0) pass0 ha hdb he hpl) ?_
  rintro σ H Q ⟨A,t,r,R,e,h⟩
  unfold dT1 at e
  cases e1:g t with
  | none=>rw [e1] at e; cases e
  | some rs =>
    rw [e1] at e
    refine ⟨A,t,rs,R,e1,fun vs H1 g1 q1=>?_⟩
    show spD X.K G (vs ++ []) H1 Q E0
    rw [List.append_nil]
    exact call_up R.mu g1 q1 e fun v H' g' w=>h v H' (g1.trans g') w
def CallD (X:Cx) (F:List Addr) (f:Value) (k:List Ev→Option Ev):Prop :=
  ∀ (pins:List (Addr × Obj)) (s:Shared) (σ:L2.St) (H0 H:Hp) (A:List Addr) (xs:List V) (us:List Value) (Q:VK) (rs:List Ev) (r:Ev),Inv X pins σ H s→Lists H0 (A ++ F)→Same H0 H→Vals xs us→RepEvs X.K F A H0 H rs xs→k rs=some r →
    (∀ z H',Same H H'→RepEv X.K F A H0 H' r z→Q z H')→wpAny (model X.prog X.w) X.A (call f us) (EP X pins σ Q) X.xe s
theorem PA.run (ha:PA X es (dA X.K F g)) {k:List Ev→Option Ev} {f:Value} (hc:CallD X F f k) {pins:List (Addr × Obj)} {s:Shared} {σ:L2.St} {H:Hp} {Q:VK} (p:Pos) (I:Inv X pins σ H s) (h:dE X.K F (dT1 k g) σ H Q) :
    wpAny (model X.prog X.w) X.A (spliced (backTo p (starEach es X.env))) (fun us s1=>wpAny (model X.prog X.w) X.A (call f us) (EP X pins σ Q) X.xe s1) X.xe s:=by
  obtain ⟨A,t,r,R,e,h⟩:=h
  unfold dT1 at e
  cases e1:g t with
  | none=>rw [e1] at e; cases e
  | some rs =>
    rw [e1] at e
    refine thn (ha p pins s σ H (fun vs H1=>Same H H1∧RepEvs X.K F A H H1 rs vs) I ⟨A,t,rs,R,e1,fun vs H1 g1 q1=>⟨g1,q1⟩⟩) fun us s1 ⟨vs,H1,I1,r1,g1,q1⟩=>?_
    exact hc pins s1 σ H H1 A vs us Q rs r I1 R.mu g1 r1 q1 e fun z H' g'=>h z H' (g1.trans g')
theorem ped_callB {k:List Ev→Option Ev} {x:Str} {p:Pos} {id:String} (hc:CallD X F (.builtin id) k) (hg:Gl X x) (hm:X.mg x=none) (hv:bootBuiltins x=some (.builtin id)) (ha:PA X (a :: es) (dA X.K F g)) (hn:x ≠ "__name__":=by decide) (hdb:(x == ("__debug__":Str))=false:=by decide)
    (he:starEach (a :: es) X.env=(false,eval a X.env) :: starEach es X.env:=by rfl) (hpl:(backTo pos (starEach es X.env)).any (·.1)=false:=by rfl):PE X (.Call (.Name x p) (a :: es) [] pos) (dE X.K F (dT1 k g)):=by
  intro pins s σ H Q I h
  refine wpAny_Call_Name_kw (ld_blt I hg hm hv ?_ hn hdb)
  exact PyProof.Rows.callWith_builtin1 (PA.run ha hc pos I h) he hpl
theorem ped_callT {k:List Ev→Option Ev} {x:Str} {p:Pos} {T:String} (hc:CallD X F (.type T) k) (hg:Gl X x) (hm:X.mg x=none) (hv:bootBuiltins x=some (.type T)) (ha:PA X (a :: es) (dA X.K F g)) (hn:x ≠ "__name__":=by decide) (hdb:(x == ("__debug__":Str))=false:=by decide)
    (he:starEach (a :: es) X.env=(false,eval a X.env) :: starEach es X.env:=by rfl) (hpl:(backTo pos (starEach es X.env)).any (·.1)=false:=by rfl):PE X (.Call (.Name x p) (a :: es) [] pos) (dE X.K F (dT1 k g)):=by
  intro pins s σ H Q I h
  refine wpAny_Call_Name_kw (ld_blt I hg hm hv ?_ hn hdb)
  exact PyProof.Rows.callWith_type1 (PA.run ha hc pos I h) he hpl
theorem CallD.of {f:Value} {r:List V→Hp→VK→Prop} {k:List Ev→Option Ev} (h:CallR X f r)
    (i:∀ (H0 H:Hp) (A:List Addr) (xs:List V) (rs:List Ev) (e:Ev) (Q:VK),Lists H0 (A ++ F)→Same H0 H→RepEvs X.K F A H0 H rs xs→k rs=some e→(∀ z H',Same H H'→RepEv X.K F A H0 H' e z→Q z H')→r xs H Q):CallD X F f k :=
  fun pins s σ H0 H A xs us Q rs e I m g v q ek hq=>h pins s σ H xs us Q I v (i H0 H A xs rs e Q m g q ek hq)
def kLen:List Ev→Option Ev:=fun rs=>match rs with
  | [r]=>(match r.d with
    | .lst xs=>some (.cl (.int xs.length))
    | .tup xs=>some (.cl (.int xs.length))
    | _=>none)
  | _=>none
theorem cd_len:CallD X F (.builtin "len") kLen:=CallD.of call_len_seq fun H0 H A xs rs e Q m g q ek hq=>by
  unfold kLen at ek
  split at ek
  · rename_i r
    cases q with
    | cons q1 q2 =>
      cases q2
      have p:=q1.full
      split at ek
      · rename_i ds z
        cases ek
        rw [z] at p
        cases p with
        | lst h1 h2=>exact ⟨_,_,rfl, .inl h1,by rw [h2.length]; exact hq _ H (Same.refl H) (.int _)⟩
      · rename_i ds z
        cases ek
        rw [z] at p
        cases p with
        | tup h1 h2=>exact ⟨_,_,rfl, .inr h1,by rw [h2.length]; exact hq _ H (Same.refl H) (.int _)⟩
      · cases ek
  · cases ek
end
end DL
namespace DL
open PySem PySem.Spec PyProof.Rows L2
abbrev DT:=Th→Option Bool
def dT (K:PySem.W.Frag) (F:List Addr) (f:DT):TT:=fun σ H Q => ∃ A t b,RS K F H A t σ∧f t=some b∧∀ H',Same H H'→Q b H'
theorem PT.imp {X:Cx} {e:Expr} {t t':TT} (h:PT X e t) (i:∀ σ H Q,t' σ H Q→t σ H Q):PT X e t':=fun pins s σ H Q I q=>h pins s σ H Q I (i σ H Q q)
theorem PW.imp {X:Cx} {e:Expr} {t t':TT} (h:PW X e t) (i:∀ σ H Q,t' σ H Q→t σ H Q):PW X e t':=fun w pins s σ H Q I q=>h w pins s σ H Q I (i σ H Q q)
def truD:D→Option Bool
  | .non=>some false
  | .bl b=>some b
  | .int i=>some (i != 0)
  | .tup xs=>some (!xs.isEmpty)
  | .lst xs=>some (!xs.isEmpty)
  | .dct ks _=>some (!ks.isEmpty)
  | .pdc _=>none
  | .str y=>if y.length ≤ 100000 then some ((y.length:Int) != 0) else none
theorem isEmpty_len {α β:Type} {xs:List α} {ys:List β} (h:xs.length=ys.length):xs.isEmpty=ys.isEmpty:=by
  cases xs <;> cases ys <;> simp_all
theorem truV_of {K:PySem.W.Frag} {H:Hp} {d:D} {v:V} {b:Bool} (r:Rep K H d v) (e:truD d=some b):TruV K v H b:=by
  cases r with
  | non=>cases e; rfl
  | bl b=>cases e; rfl
  | int i=>cases e; rfl
  | str x =>
    simp only [truD] at e
    split at e
    · cases e; exact ⟨le_line (by assumption),rfl⟩
    · cases e
  | tup h1 h2=>cases e; exact .inr (.inl ⟨_,h1,by rw [isEmpty_len h2.length]⟩)
  | lst h1 h2=>cases e; exact .inl ⟨_,h1,by rw [isEmpty_len h2.length]⟩
  | @dct ks ds p vs l h1 h2 =>
    cases e
    have e1:(mkKV ks vs).length=ks.length:=by unfold mkKV; rw [List.length_zip]; omega
    exact .inr (.inr ⟨_,h1,by rw [isEmpty_len e1]⟩)
  | pdc h=>cases e
def dTr (f:DE):DT:=fun t=>(f t).bind fun r=>truD r.d
def dBo (f:DE):DT:=fun t=>(f t).bind fun r=>match r.d with
  | .bl b=>some b
  | _=>none
def dAnd (f g:DT):DT:=fun t=>(f t).bind fun b=>if b then g t else some false
def dOr (f g:DT):DT:=fun t=>(f t).bind fun b=>if b then some true else g t
def dNot (f:DT):DT:=fun t=>(f t).bind fun b=>some (!b)
section
variable {X:Cx} {F:List Addr} {a b c:Expr} {es:List Expr} {fa fb fc:DE} {g g':DA} {ft fu:DT} {pos:Pos} {rest:List Expr}
theorem ptd_val (ha:PE X a (dE X.K F fa)) (he:∀ whole,isTrue a X.env whole=(do let v ← whole; standAt a.pos; holding [v] (truthy v)):=by intro _; rfl):PT X a (dT X.K F (dTr fa)):=by
  refine PT.imp (pt_truth ha he) ?_
  rintro σ H Q ⟨A,t,r,R,e,h⟩
  unfold dTr at e
  cases e1:fa t with
  | none=>rw [e1] at e; cases e
  | some r1 =>
    rw [e1] at e
    exact ⟨A,t,r1,R,e1,fun v H' g' q=>⟨r,truV_of q.full e,h H' g'⟩⟩
theorem ptd_cmp {op:CmpOp} {k:Ev→Ev→Option Ev} (ho:OpD X F (compareOp op) k) (ha:PE X a (dE X.K F fa)) (hb:PE X b (dE X.K F fb)) (hm:behindInMarks op b=false:=by first | exact nomark _ | (with_unfolding_all rfl)) :
    PT X (.Compare a [op] [b] pos) (dT X.K F (dBo (d2 k fa fb))):=by
  intro pins s σ H Q I h
  obtain ⟨A,t,b',R,e,h⟩:=h
  unfold dBo at e
  cases e1:d2 k fa fb t with
  | none=>rw [e1] at e; cases e
  | some r0 =>
    rw [e1] at e
    have w0:dE X.K F (d2 k fa fb) σ H (fun z H'=>Same H H'∧Rep X.K H' r0.d z):=⟨A,t,r0,R,e1,fun v H' g q=>⟨g,q.full⟩⟩
    obtain ⟨A2,t2,r1,r2,r,R2,e1',e2',e3,h3,w⟩:=two w0
    refine wpAny_isTrue_Compare1 (bin ha hb I w fun v u s2 x y H2 I2 rx ry q=>?_) hm
    obtain ⟨g,q1,q2⟩:=q
    refine thn (ho pins s2 σ H H2 A2 x y v u (fun z H'=>Same H H'∧Rep X.K H' r0.d z) r1 r2 r I2 R2.mu g rx ry q1 q2 e3 fun z H' g'=>h3 z H' (g.trans g')) fun cc s3 ⟨z,H3,I3,r3,g3,q3⟩=>?_
    have e:(match r0.d with | .bl b=>some b | _=>none)=some b':=e
    split at e
    · rename_i b2 z2
      cases e
      rw [z2] at q3
      cases q3
      cases r3
      exact wpAny_truthy_bool ⟨H3,I3,h H3 g3⟩
    · cases e
theorem pwd_and1 (ha:PT X a (dT X.K F ft)):PW X (.BoolOp .And [a] pos) (dT X.K F ft):=pw_and1 ha
theorem pwd_or1 (ha:PT X a (dT X.K F ft)):PW X (.BoolOp .Or [a] pos) (dT X.K F ft):=pw_or1 ha
theorem pwd_and (ha:PT X a (dT X.K F ft)) (hb:PW X (.BoolOp .And (b :: rest) pos) (dT X.K F fu)):PW X (.BoolOp .And (a :: b :: rest) pos) (dT X.K F (dAnd ft fu)):=by
  refine PW.imp (pw_and ha hb) ?_
  rintro σ H Q ⟨A,t,r,R,e,h⟩
  unfold dAnd at e
  cases e1:ft t with
  | none=>rw [e1] at e; cases e
  | some r1 =>
    rw [e1] at e
    refine ⟨A,t,r1,R,e1,fun H1 g1=>?_⟩
    cases r1 with
    | true=>exact ⟨A,t,r,R.grow g1,e,fun H2 g2=>h H2 (g1.trans g2)⟩
    | false=>cases e; exact h H1 g1
theorem pwd_or (ha:PT X a (dT X.K F ft)) (hb:PW X (.BoolOp .Or (b :: rest) pos) (dT X.K F fu)):PW X (.BoolOp .Or (a :: b :: rest) pos) (dT X.K F (dOr ft fu)):=by
  refine PW.imp (pw_or ha hb) ?_
  rintro σ H Q ⟨A,t,r,R,e,h⟩
  unfold dOr at e
  cases e1:ft t with
  | none=>rw [e1] at e; cases e
  | some r1 =>
    rw [e1] at e
    refine ⟨A,t,r1,R,e1,fun H1 g1=>?_⟩
    cases r1 with
    | true=>cases e; exact h H1 g1
    | false=>exact ⟨A,t,r,R.grow g1,e,fun H2 g2=>h H2 (g1.trans g2)⟩
theorem ptd_not (ha:PT X a (dT X.K F ft)):PT X (.UnaryOp .Not a pos) (dT X.K F (dNot ft)):=by
  refine PT.imp (pt_not ha) ?_
  rintro σ H Q ⟨A,t,r,R,e,h⟩
  unfold dNot at e
  cases e1:ft t with
  | none=>rw [e1] at e; cases e
  | some r1 =>
    rw [e1] at e
    cases e
    exact ⟨A,t,r1,R,e1,fun H1 g1=>h H1 g1⟩
def dAndV (f g:DE):DE:=fun t=>(f t).bind fun r=>match r.d with
  | .bl b=>if b then g t else some (.cl (.bl false))
  | _=>none
def kNotV:Ev→Option Ev:=fun r=>match r.d with
  | .bl b=>some (.cl (.bl (!b)))
  | _=>none
theorem ped_one {op} (h:PE X a (dE X.K F fa)):PE X (.BoolOp op [a] pos) (dE X.K F fa):=pe_one h
theorem ped_and (ha:PE X a (dE X.K F fa)) (hb:PE X (.BoolOp .And (b :: rest) pos) (dE X.K F fb)):PE X (.BoolOp .And (a :: b :: rest) pos) (dE X.K F (dAndV fa fb)):=by
  refine PE.imp (pe_and ha hb) ?_
  rintro σ H Q ⟨A,t,r,R,e,h⟩
  unfold dAndV at e
  cases e1:fa t with
  | none=>rw [e1] at e; cases e
  | some r1 =>
    rw [e1] at e
    refine ⟨A,t,r1,R,e1,fun v H1 g1 q1=>?_⟩
    have p:=q1.full
    have e:(match r1.d with | .bl b=>if b then fb t else some (.cl (.bl false)) | _=>none)=some r:=e
    split at e
    · rename_i b2 z
      rw [z] at p
      cases p
      refine ⟨b2,rfl,?_⟩
      cases b2 with
      | true=>exact ⟨A,t,r,R.grow g1,e,fun v2 H2 g2 q2=>h v2 H2 (g1.trans g2) (q2.back g1)⟩
      | false=>cases e; exact h _ H1 g1 (.bl false)
    · cases e
theorem ped_not (ha:PE X a (dE X.K F fa)):PE X (.UnaryOp .Not a pos) (dE X.K F (d1 kNotV fa)):=by
  refine PE.imp (pe_not ha) ?_
  rintro σ H Q ⟨A,t,r,R,e,h⟩
  unfold d1 at e
  cases e1:fa t with
  | none=>rw [e1] at e; cases e
  | some r1 =>
    rw [e1] at e
    refine ⟨A,t,r1,R,e1,fun x H1 g1 q1=>?_⟩
    have e:kNotV r1=some r:=e
    unfold kNotV at e
    split at e
    · rename_i i z
      cases e
      have p:=q1.full
      rw [z] at p
      cases p
      exact ⟨i,rfl,h _ H1 g1 (.bl _)⟩
    · cases e
end
inductive Out where
  | nx (t:Th) | rt (r:Ev) | bk (t:Th) | ct (t:Th)
abbrev DS:=Th→Option Out
def After (K:PySem.W.Frag) (F A:List Addr) (H:Hp) (N:L2.St→Hp→Prop) (t:Th):Prop := ∀ σ' H' A',Gr A H A' H'→RS K F H' A' t σ'→N σ' H'
def RetEv (K:PySem.W.Frag) (F A:List Addr) (H H':Hp):Ev→V→Prop
  | .cl d,v=>Rep K (hide F H') d v
  | .tm d,v=>Rep K (hide F H') d v
  | .nw xs,v => ∃ p vs,v = .ref p∧(p ∈ A ∨ H p=none)∧p ∉ F∧H' p=some (.lst vs)∧Reps K (hide (p :: F) H') xs vs
  | .dn d,v => ∃ B,B.Nodup∧(∀ b ∈ B,(b ∈ A ∨ H b=none)∧b ∉ F)∧RepD K (hide (B ++ F) H') H' d v B
def Back (K:PySem.W.Frag) (F A:List Addr) (H:Hp) (N:VK) (r:Ev):Prop := ∀ v H' A',Gr A H A' H'→RetEv K F A H H' r v→N v H'
def dS (K:PySem.W.Frag) (F:List Addr) (g:DS):TS:=fun E σ H => ∃ A t o,RS K F H A t σ∧g t=some o∧match o with
  | .nx t'=>After K F A H E.nx t'
  | .bk t'=>After K F A H E.bk t'
  | .ct t'=>After K F A H E.ct t'
  | .rt r=>Back K F A H E.rt r
end DL
namespace DL
open PySem PySem.Spec PyProof.Rows L2
theorem RetEv.back {K:PySem.W.Frag} {F A A1:List Addr} {H H1 H':Hp} {r:Ev} {v:V} (g:Gr A H A1 H1) (h:RetEv K F A1 H1 H' r v):RetEv K F A H H' r v:=by
  cases r with
  | cl d=>exact h
  | tm d=>exact h
  | nw xs =>
    obtain ⟨p,vs,rfl,h1,h2,h3,h4⟩:=h
    refine ⟨p,vs,rfl,?_,h2,h3,h4⟩
    rcases h1 with h1 | h1
    · exact g.nw p h1
    · by_cases z:p ∈ A
      · exact .inl z
      · refine .inr ?_
        cases w:H p with
        | none=>rfl
        | some o=>rw [g.kp p o z w] at h1; cases h1
  | dn d =>
    obtain ⟨B,h0,h1,h2⟩:=h
    refine ⟨B,h0,fun p hp=>⟨?_,(h1 p hp).2⟩,h2⟩
    rcases (h1 p hp).1 with h1 | h1
    · exact g.nw p h1
    · by_cases z:p ∈ A
      · exact .inl z
      · refine .inr ?_
        cases w:H p with
        | none=>rfl
        | some o=>rw [g.kp p o z w] at h1; cases h1
theorem After.back {K:PySem.W.Frag} {F A A1:List Addr} {H H1:Hp} {N:L2.St→Hp→Prop} {t:Th} (h:After K F A H N t) (g:Gr A H A1 H1):After K F A1 H1 N t:=fun σ' H' A' g' R=>h σ' H' A' (g.trans g') R
theorem Back.back {K:PySem.W.Frag} {F A A1:List Addr} {H H1:Hp} {N:VK} {r:Ev} (h:Back K F A H N r) (g:Gr A H A1 H1):Back K F A1 H1 N r:=fun v H' A' g' R=>h v H' A' (g.trans g') (R.back g)
theorem PS.imp {X:Cx} {e:Stmt} {t t':TS} (h:PS X e t) (i:∀ E σ H,t' E σ H→t E σ H):PS X e t':=fun pins s σ H D I q=>h pins s σ H D I (i D σ H q)
theorem PSs.imp {X:Cx} {e:List Stmt} {t t':TS} (h:PSs X e t) (i:∀ E σ H,t' E σ H→t E σ H):PSs X e t':=fun pins s σ H D I q=>h pins s σ H D I (i D σ H q)
theorem Lists.left {H:Hp} {A F:List Addr} (h:Lists H (A ++ F)):Lists H A:=fun p hp=>h p (List.mem_append_left _ hp)
def dSkip:DS:=fun t=>some (.nx t)
def dSeq (g1 g2:DS):DS:=fun t=>(g1 t).bind fun o=>match o with
  | .nx t'=>g2 t'
  | .rt r=>some (.rt r)
  | .bk t'=>some (.bk t')
  | .ct t'=>some (.ct t')
section
variable {X:Cx} {F:List Addr} {a b c:Expr} {es:List Expr} {fa fb fc:DE} {g g1 g2:DS} {ft fu:DT} {pos:Pos} {st:Stmt} {rest:List Stmt}
theorem psd_nil:PSs X [] (dS X.K F dSkip):=PSs.imp pss_nil fun E σ H ⟨A,t,o,R,e,h⟩=>by cases e; exact h σ H A (Gr.refl R.mu.left) R
theorem psd_cons (h1:PS X st (dS X.K F g1)) (h2:PSs X rest (dS X.K F g2)):PSs X (st :: rest) (dS X.K F (dSeq g1 g2)):=by
  refine PSs.imp (pss_cons h1 h2) ?_
  rintro E σ H ⟨A,t,o,R,e,h⟩
  unfold dSeq at e
  cases e1:g1 t with
  | none=>rw [e1] at e; cases e
  | some o1 =>
    rw [e1] at e
    refine ⟨A,t,o1,R,e1,?_⟩
    cases o1 with
    | nx t' =>
      intro σ' H' A' g' R'
      refine ⟨A',t',o,R',e,?_⟩
      cases o with
      | nx t2=>exact After.back h g'
      | bk t2=>exact After.back h g'
      | ct t2=>exact After.back h g'
      | rt r=>exact Back.back h g'
    | rt r=>cases e; exact h
    | bk t2=>cases e; exact h
    | ct t2=>cases e; exact h
theorem psd_one (h1:PS X st (dS X.K F g1)):PSs X [st] (dS X.K F g1):=pss_one h1
def dIfS (c:DT) (g1 g2:DS):DS:=fun t=>(c t).bind fun b=>if b then g1 t else g2 t
theorem psd_if {s1 s2:List Stmt} (hc:PT X c (dT X.K F ft)) (ha:PSs X s1 (dS X.K F g1)) (hb:PSs X s2 (dS X.K F g2)):PS X (.If c s1 s2 pos) (dS X.K F (dIfS ft g1 g2)):=by
  refine PS.imp (ps_if hc ha hb) ?_
  rintro E σ H ⟨A,t,o,R,e,h⟩
  unfold dIfS at e
  cases e1:ft t with
  | none=>rw [e1] at e; cases e
  | some r1 =>
    rw [e1] at e
    refine ⟨A,t,r1,R,e1,fun H1 gs=>?_⟩
    have gr:Gr A H A H1:=Gr.of_same R.mu.left gs
    cases r1 with
    | true =>
      refine ⟨A,t,o,R.grow gs,e,?_⟩
      cases o with
      | nx t2=>exact After.back h gr
      | bk t2=>exact After.back h gr
      | ct t2=>exact After.back h gr
      | rt r=>exact Back.back h gr
    | false =>
      refine ⟨A,t,o,R.grow gs,e,?_⟩
      cases o with
      | nx t2=>exact After.back h gr
      | bk t2=>exact After.back h gr
      | ct t2=>exact After.back h gr
      | rt r=>exact Back.back h gr
def dRet (f:DE):DS:=fun t=>(f t).bind fun r=>some (.rt r)
theorem RetEv.of {K:PySem.W.Frag} {F A:List Addr} {H H':Hp} {r:Ev} {v:V} (m:Lists H (A ++ F)) (h:RepEv K F A H H' r v):RetEv K F A H H' r v:=by
  cases r with
  | cl d=>exact Rep.mono (hide_less H' fun a z=>List.mem_append_right _ z) h
  | tm d=>exact h
  | nw xs =>
    obtain ⟨p,vs,rfl,h1,h2,h3⟩:=h
    have np:p ∉ A ++ F:=notin_lists m h1
    refine ⟨p,vs,rfl, .inr h1,fun z=>np (List.mem_append_right _ z),h2,Reps.mono (hide_less H' fun a z=>?_) h3⟩
    rcases List.mem_cons.mp z with z | z
    · rw [z]; exact List.mem_cons_self ..
    · exact List.mem_cons_of_mem _ (List.mem_append_right _ z)
  | dn d =>
    obtain ⟨B,h1,h2,h3⟩:=h
    refine ⟨B,h1,fun b hb=>⟨.inr (h2 b hb),fun z=>notin_lists m (h2 b hb) (List.mem_append_right _ z)⟩,RepD.mono (hide_less H' fun a z=>?_) h3 fun _ _ _ q=>q⟩
    rcases List.mem_append.mp z with z | z
    · exact List.mem_append_left _ z
    · exact List.mem_append_right _ (List.mem_append_right _ z)
theorem psd_ret (ha:PE X a (dE X.K F fa)):PS X (.Return (some a) pos) (dS X.K F (dRet fa)):=by
  refine PS.imp (ps_ret ha) ?_
  rintro E σ H ⟨A,t,o,R,e,h⟩
  unfold dRet at e
  cases e1:fa t with
  | none=>rw [e1] at e; cases e
  | some r1 =>
    rw [e1] at e
    cases e
    exact ⟨A,t,r1,R,e1,fun v H' gs q=>h v H' A (Gr.of_same R.mu.left gs) (RetEv.of R.mu q)⟩
def dRetO (i:Nat):DS:=fun t=>match t[i]? with
  | some (.own xs)=>some (.rt (.nw xs))
  | some (.val d)=>some (.rt (.cl d))
  | some (.dp d)=>some (.rt (.dn d))
  | _=>none
theorem psd_retO (i:Nat) {x:Str} {pos':Pos} (hN:X.N[i]?=some x:=by rfl) (hv:Vis X.env.scope x:=by first | exact Or.inl rfl | exact Or.inr (Or.inl rfl) | exact Or.inr (Or.inr rfl)) (hd:(x == ("__debug__":Str))=false:=by decide)
    (hcd:(x == ("__classdict__":Str))=false:=by decide):PS X (.Return (some (.Name x pos')) pos) (dS X.K F (dRetO i)):=by
  refine PS.imp (ps_ret (pe_var (i:=i) hN hv hd hcd)) ?_
  rintro E σ H ⟨A,t,o,R,e,h⟩
  unfold dRetO at e
  split at e
  · rename_i ds q
    cases e
    obtain ⟨p,vs,h1,h2,h3,h4⟩:=R.rel.getOwn q
    refine ⟨_,h1,h _ H A (Gr.refl R.mu.left) ⟨p,vs,rfl, .inl h2,R.dj p h2,h3,Reps.mono (hide_less H fun a z=>?_) h4⟩⟩
    rcases List.mem_cons.mp z with z | z
    · rw [z]; exact List.mem_append_left _ h2
    · exact List.mem_append_right _ z
  · rename_i d q
    cases e
    obtain ⟨v,h1,h2⟩:=R.rel.getVal q
    exact ⟨v,h1,h v H A (Gr.refl R.mu.left) (Rep.mono (hide_less H fun a z=>List.mem_append_right _ z) h2)⟩
  · rename_i d q
    cases e
    obtain ⟨v,B,h1,h2,h0,h3⟩:=R.rel.getDp R.nd q
    refine ⟨v,h1,h v H A (Gr.refl R.mu.left) ⟨B,h0,fun b hb=>⟨.inl (h2 b hb),R.dj b (h2 b hb)⟩,RepD.mono (hide_less H fun a z=>?_) h3 fun _ _ _ q=>q⟩⟩
    rcases List.mem_append.mp z with z | z
    · exact List.mem_append_left _ (h2 a z)
    · exact List.mem_append_right _ z
  · cases e
end
theorem RSl.setVal {K:PySem.W.Frag} {H0 H:Hp} {d:D} {v:V} (h:Rep K H0 d v):∀ {t:Th} {σ:L2.St} {A:List Addr} (i:Nat),RSl K H0 H t σ A→i < t.length→∃ A',RSl K H0 H (t.set i (.val d)) (σ.set i (some v)) A'∧List.Sublist A' A
  | _,_,_,_, .nil,l=>by simp at l
  | _,_,_,0, .no r,_=>⟨_, .val h r,List.Sublist.refl _⟩
  | _,_,_,0, .val _ r,_=>⟨_, .val h r,List.Sublist.refl _⟩
  | _,_,_,0, .own _ _ r,_=>⟨_, .val h r,List.sublist_cons_self _ _⟩
  | _,_,_,0, .dp _ r,_=>⟨_, .val h r,List.sublist_append_right _ _⟩
  | _,_,_,i + 1, .no r,l=>let ⟨A',a,b⟩:=RSl.setVal h i r (by simpa using l); ⟨A', .no a,b⟩
  | _,_,_,i + 1, .val q r,l=>let ⟨A',a,b⟩:=RSl.setVal h i r (by simpa using l); ⟨A', .val q a,b⟩
  | _,_,_,i + 1, .own q1 q2 r,l=>let ⟨A',a,b⟩:=RSl.setVal h i r (by simpa using l); ⟨_, .own q1 q2 a,b.cons₂ _⟩
  | _,_,_,i + 1, .dp q r,l=>let ⟨A',a,b⟩:=RSl.setVal h i r (by simpa using l); ⟨_, .dp q a,List.Sublist.append (List.Sublist.refl _) b⟩
theorem RSl.setAny {K:PySem.W.Frag} {H0 H:Hp} {s:Sl} {v:V} {B:List Addr} (h:∀ {t:Th} {σ:L2.St} {A:List Addr},RSl K H0 H t σ A→RSl K H0 H (s :: t) (some v :: σ) (B ++ A)):∀ {t:Th} {σ:L2.St} {A:List Addr} (i:Nat),RSl K H0 H t σ A→i < t.length →
    ∃ A',RSl K H0 H (t.set i s) (σ.set i (some v)) A'∧(∀ x ∈ A',x ∈ B ∨ x ∈ A)∧(A.Nodup→B.Nodup→(∀ b ∈ B,b ∉ A)→A'.Nodup)
  | _,_,_,_, .nil,l=>by simp at l
  | _,_,A,0, .no r,_=>⟨_,h r,fun x hx=>List.mem_append.mp hx,fun n1 n2 d=>List.nodup_append.mpr ⟨n2,n1,fun a ha b hb e=>d a ha (e ▸ hb)⟩⟩
  | _,_,A,0, .val _ r,_=>⟨_,h r,fun x hx=>List.mem_append.mp hx,fun n1 n2 d=>List.nodup_append.mpr ⟨n2,n1,fun a ha b hb e=>d a ha (e ▸ hb)⟩⟩
  | _,_,_,0, .own _ _ r,_=>⟨_,h r,fun x hx=>(List.mem_append.mp hx).imp id (List.mem_cons_of_mem _),fun n1 n2 d=>List.nodup_append.mpr ⟨n2,(List.nodup_cons.mp n1).2,fun a ha b hb e=>d a ha (e ▸ List.mem_cons_of_mem _ hb)⟩⟩
  | _,_,_,0, .dp _ r,_=>⟨_,h r,fun x hx=>(List.mem_append.mp hx).imp id (List.mem_append_right _),fun n1 n2 d=>List.nodup_append.mpr ⟨n2,(List.nodup_append.mp n1).2.1,fun a ha b hb e=>d a ha (e ▸ List.mem_append_right _ hb)⟩⟩
  | _,_,_,i + 1, .no r,l=>let ⟨A',a,b,c⟩:=RSl.setAny h i r (by simpa using l); ⟨A', .no a,b,c⟩
  | _,_,_,i + 1, .val q r,l=>let ⟨A',a,b,c⟩:=RSl.setAny h i r (by simpa using l); ⟨A', .val q a,b,c⟩
  | _,_,_,i + 1, .own (p:=p2) q1 q2 r,l=>by
    obtain ⟨A',a,b,c⟩:=RSl.setAny h i r (by simpa using l)
    refine ⟨_, .own q1 q2 a,fun x hx=>?_,fun nd nb np=>?_⟩
    · rcases List.mem_cons.mp hx with z | z
      · exact .inr (z ▸ List.mem_cons_self ..)
      · exact (b x z).imp id (List.mem_cons_of_mem _)
    · have n1:=List.nodup_cons.mp nd
      refine List.nodup_cons.mpr ⟨fun z=>?_,c n1.2 nb fun x hx z=>np x hx (List.mem_cons_of_mem _ z)⟩
      rcases b _ z with z | z
      · exact np _ z (List.mem_cons_self ..)
      · exact n1.1 z
  | _,_,_,i + 1, .dp (B:=C) q r,l=>by
    obtain ⟨A',a,b,c⟩:=RSl.setAny h i r (by simpa using l)
    refine ⟨_, .dp q a,fun x hx=>?_,fun nd nb np=>?_⟩
    · rcases List.mem_append.mp hx with z | z
      · exact .inr (List.mem_append_left _ z)
      · exact (b x z).imp id (List.mem_append_right _)
    · have n1:=List.nodup_append.mp nd
      refine List.nodup_append.mpr ⟨n1.1,c n1.2.1 nb fun x hx z=>np x hx (List.mem_append_right _ z),fun x hx y hy e=>?_⟩
      subst e
      rcases b _ hy with z | z
      · exact np _ z (List.mem_append_left _ hx)
      · exact n1.2.2 _ hx _ z rfl
theorem RS.putAny {K:PySem.W.Frag} {F A:List Addr} {H H':Hp} {t:Th} {σ:L2.St} {i:Nat} {s:Sl} {v:V} {B:List Addr} (R:RS K F H A t σ) (g:Same H H') (fr:∀ b ∈ B,H b=none) (nb:B.Nodup) (lb:Lists H' B)
    (mk:∀ {t:Th} {σ:L2.St} {A':List Addr},RSl K (hide (B ++ (A ++ F)) H') H' t σ A'→RSl K (hide (B ++ (A ++ F)) H') H' (s :: t) (some v :: σ) (B ++ A')) (hi:i < t.length) :
    ∃ A',Gr A H A' H'∧RS K F H' A' (t.set i s) (σ.set i (some v)):=by
  have R':=R.grow g
  have np:∀ b ∈ B,b ∉ A ++ F:=fun b hb=>notin_lists R.mu (fr b hb)
  have r0:RSl K (hide (B ++ (A ++ F)) H') H' t σ A:=RSl.mono (fun b o h=>by
    obtain ⟨n,h⟩:=of_hide h
    refine hide_get (g _ _ h) fun z=>?_
    rcases List.mem_append.mp z with z | z
    · rw [fr b z] at h; cases h
    · exact n z) R.rel fun b _ o h=>g _ _ h
  obtain ⟨A',r1,sub,nd⟩:=RSl.setAny mk i r0 hi
  refine ⟨A',⟨fun b o _ h=>g b o h,fun b hb=>by obtain ⟨ws,z⟩:=R.mu b (List.mem_append_left _ hb); rw [g _ _ z]; simp,fun b hb=>?_⟩,?_,nd R.nd nb fun b hb z=>np b hb (List.mem_append_left _ z),fun b hb=>?_,?_⟩
  · rcases sub b hb with z | z
    · exact .inr (fr b z)
    · exact .inl z
  · intro b hb
    rcases List.mem_append.mp hb with z | z
    · rcases sub b z with z | z
      · exact lb b z
      · exact R'.mu b (List.mem_append_left _ z)
    · exact R'.mu b (List.mem_append_right _ z)
  · rcases sub b hb with z | z
    · exact fun w=>np b z (List.mem_append_right _ w)
    · exact R.dj b z
  · refine RSl.mono (hide_less H' fun b z=>?_) r1 fun _ _ _ h=>h
    rcases List.mem_append.mp z with z | z
    · rcases sub b z with z | z
      · exact List.mem_append_left _ z
      · exact List.mem_append_right _ (List.mem_append_left _ z)
    · exact List.mem_append_right _ (List.mem_append_right _ z)
def setSl (t:Th) (i:Nat) (r:Ev):Option Th:=if i < t.length then (match r with
  | .cl d=>some (t.set i (.val d))
  | .tm d=>if flat d then some (t.set i (.val d)) else none
  | .nw xs=>some (t.set i (.own xs))
  | .dn d=>some (t.set i (.dp d))) else none
theorem RS.put {K:PySem.W.Frag} {F A:List Addr} {H H':Hp} {t t':Th} {σ:L2.St} {i:Nat} {r:Ev} {v:V} (R:RS K F H A t σ) (g:Same H H') (q:RepEv K F A H H' r v) (e:setSl t i r=some t') :
    ∃ A',Gr A H A' H'∧RS K F H' A' t' (σ.set i (some v)):=by
  have R':=R.grow g
  have val:∀ d,Rep K (hide (A ++ F) H') d v→i < t.length→∃ A',Gr A H A' H'∧RS K F H' A' (t.set i (.val d)) (σ.set i (some v)):=fun d hd hi=>by
    obtain ⟨A',r1,sub⟩:=RSl.setVal hd i R'.rel hi
    have sub':∀ x ∈ A',x ∈ A:=fun x hx=>sub.subset hx
    refine ⟨A',⟨fun b o _ h=>g b o h,fun b hb=>by obtain ⟨vs,z⟩:=R.mu b (List.mem_append_left _ hb); rw [g _ _ z]; simp,fun b hb => .inl (sub' b hb)⟩,?_,R.nd.sublist sub,fun p hp=>R.dj p (sub' p hp),?_⟩
    · intro p hp
      rcases List.mem_append.mp hp with z | z
      · exact R'.mu p (List.mem_append_left _ (sub' p z))
      · exact R'.mu p (List.mem_append_right _ z)
    · refine RSl.mono (hide_less H' fun a z=>?_) r1 fun _ _ _ h=>h
      rcases List.mem_append.mp z with z | z
      · exact List.mem_append_left _ (sub' a z)
      · exact List.mem_append_right _ z
  unfold setSl at e
  split at e
  case isFalse=>cases e
  rename_i hi
  cases r with
  | cl d=>cases e; exact val d q hi
  | tm d =>
    simp only at e
    split at e
    · rename_i f
      cases e
      exact val d (Rep.hid R'.mu f (Rep.mono (hide_sub _ _) q)) hi
    · cases e
  | nw xs =>
    cases e
    obtain ⟨p,vs,rfl,h1,h2,h3⟩:=q
    exact R.putAny (B:=[p]) g (fun b hb=>by simp at hb; subst hb; exact h1) (by simp) (fun b hb=>by simp at hb; subst hb; exact ⟨mL vs,h2⟩) (fun r => .own h2 h3 r) hi
  | dn d =>
    cases e
    obtain ⟨B,h1,h2,h3⟩:=q
    exact R.putAny (B:=B) g h2 h1 h3.lists (fun r => .dp h3 r) hi
section
variable {X:Cx} {F:List Addr} {a b c:Expr} {es:List Expr} {fa fb fc:DE} {g g1 g2:DS} {ft fu:DT} {pos:Pos} {st:Stmt} {rest:List Stmt}
def dAsg (i:Nat) (f:DE):DS:=fun t=>(f t).bind fun r=>(setSl t i r).map Out.nx
theorem psd_set {i:Nat} {x:Str} {pos':Pos} (hN:X.N.Nodup) (hi:X.N[i]?=some x) (hx:Loc X.env.scope x) (he:PE X a (dE X.K F fa)) (hs:swapsWith a (some (.Name x pos')) pos.line X.env=pure false:=by rfl) (hf:X.fn x=true ∨ X.env.scope.names.lookup x=some .local:=by first | exact .inl rfl | exact .inr rfl | assumption) :
    PS X (.Assign [.Name x pos'] a pos) (dS X.K F (dAsg i fa)):=by
  refine PS.imp (ps_set hN hi hx he hs hf) ?_
  rintro E σ H ⟨A,t,o,R,e,h⟩
  unfold dAsg at e
  cases e1:fa t with
  | none=>rw [e1] at e; cases e
  | some r1 =>
    rw [e1] at e
    have e:(setSl t i r1).map Out.nx=some o:=e
    cases e2:setSl t i r1 with
    | none=>rw [e2] at e; cases e
    | some t' =>
      rw [e2] at e
      cases e
      refine ⟨A,t,r1,R,e1,fun v H' gs q=>?_⟩
      obtain ⟨A',g',R'⟩:=R.put gs q e2
      exact h _ _ _ g' R'
end
end DL
namespace DL
open PySem PySem.Spec PyProof.Rows L2
def TgOk (K:PySem.W.Frag) (F:List Addr) (g:TG) (k:D→Th→Option Th):Prop :=
  ∀ σ H A t t' d x (Q:L2.St→Hp→Prop),RS K F H A t σ→Rep K (hide (A ++ F) H) d x→k d t=some t'→(∀ σ2 A2,Gr A H A2 H→RS K F H A2 t' σ2→Q σ2 H)→g x σ H Q
def TgsOk (K:PySem.W.Frag) (F:List Addr) (g:TGs) (k:List D→Th→Option Th):Prop :=
  ∀ σ H A t t' ds xs (Q:L2.St→Hp→Prop),RS K F H A t σ→Reps K (hide (A ++ F) H) ds xs→k ds t=some t'→(∀ σ2 A2,Gr A H A2 H→RS K F H A2 t' σ2→Q σ2 H)→g xs σ H Q
def gkName (i:Nat):D→Th→Option Th:=fun d t=>setSl t i (.cl d)
def gkNil:List D→Th→Option Th:=fun ds t=>match ds with
  | []=>some t
  | _=>none
def gkCons (k:D→Th→Option Th) (k':List D→Th→Option Th):List D→Th→Option Th:=fun ds t=>match ds with
  | d :: r=>(k d t).bind (k' r)
  | []=>none
def gkTup (n:Nat) (k:List D→Th→Option Th):D→Th→Option Th:=fun d t=>match d with
  | .tup ds=>if ds.length=n then k ds t else none
  | _=>none
theorem tg_name {K:PySem.W.Frag} {F:List Addr} (i:Nat):TgOk K F (gName i) (gkName i):=by
  intro σ H A t t' d x Q R r e h
  obtain ⟨A',g,R'⟩:=R.put (i:=i) (r := .cl d) (Same.refl H) r e
  exact h _ _ g R'
theorem tgs_nil {K:PySem.W.Frag} {F:List Addr}:TgsOk K F gNil gkNil:=by
  intro σ H A t t' ds xs Q R r e h
  cases r with
  | nil=>cases e; exact ⟨rfl,h σ A (Gr.refl R.mu.left) R⟩
  | cons _ _=>cases e
theorem tgs_cons {K:PySem.W.Frag} {F:List Addr} {g:TG} {g':TGs} {k:D→Th→Option Th} {k':List D→Th→Option Th} (h1:TgOk K F g k) (h2:TgsOk K F g' k'):TgsOk K F (gCons g g') (gkCons k k'):=by
  intro σ H A t t' ds xs Q R r e h
  cases r with
  | nil=>cases e
  | @cons d v ds vs r1 r2 =>
    unfold gkCons at e
    cases e1:k d t with
    | none=>simp only [e1] at e; cases e
    | some t1 =>
      simp only [e1] at e
      refine ⟨v,vs,rfl,h1 σ H A t t1 d v _ R r1 e1 fun σ2 A2 g2 R2=>?_⟩
      exact h2 σ2 H A2 t1 t' ds vs Q R2 (Reps.mono g2.same r2) e fun σ3 A3 g3 R3=>h σ3 A3 (g2.trans g3) R3
theorem tg_tup {K:PySem.W.Frag} {F:List Addr} {n:Nat} {g':TGs} {k':List D→Th→Option Th} (h2:TgsOk K F g' k'):TgOk K F (gTup K n g') (gkTup n k'):=by
  intro σ H A t t' d x Q R r e h
  unfold gkTup at e
  split at e
  · rename_i ds
    split at e
    · rename_i hl
      cases r with
      | @tup _ p vs h1 hr=>exact ⟨p,vs,rfl,SqT.mono (hide_sub _ _) h1,by rw [hr.length]; exact hl,h2 σ H A t t' ds vs Q R hr e h⟩
    · cases e
  · cases e
def forD (k:D→Th→Option Th) (body:DS):List D→Th→Option Out
  | [],t=>some (.nx t)
  | d :: ds,t=>(k d t).bind fun t1=>(body t1).bind fun o=>match o with
    | .nx t'=>forD k body ds t'
    | .ct t'=>forD k body ds t'
    | .bk t'=>some (.nx t')
    | .rt r=>some (.rt r)
def Post (K:PySem.W.Frag) (F A:List Addr) (H:Hp) (E:Ends):Out→Prop
  | .nx t'=>After K F A H E.nx t'
  | .bk t'=>After K F A H E.bk t'
  | .ct t'=>After K F A H E.ct t'
  | .rt r=>Back K F A H E.rt r
theorem Post.back {K:PySem.W.Frag} {F A A1:List Addr} {H H1:Hp} {E:Ends} {o:Out} (h:Post K F A H E o) (g:Gr A H A1 H1):Post K F A1 H1 E o:=by
  cases o with
  | nx t2=>exact After.back h g
  | bk t2=>exact After.back h g
  | ct t2=>exact After.back h g
  | rt r=>exact Back.back h g
theorem dS_mk {K:PySem.W.Frag} {F A:List Addr} {g:DS} {E:Ends} {σ:L2.St} {H:Hp} {t:Th} {o:Out} (R:RS K F H A t σ) (e:g t=some o) (p:Post K F A H E o):dS K F g E σ H:=⟨A,t,o,R,e,by cases o <;> exact p⟩
theorem dS_of {K:PySem.W.Frag} {F:List Addr} {g:DS} {E:Ends} {σ:L2.St} {H:Hp} (h:dS K F g E σ H):∃ A t o,RS K F H A t σ∧g t=some o∧Post K F A H E o:=by
  obtain ⟨A,t,o,R,e,h⟩:=h
  exact ⟨A,t,o,R,e,by cases o <;> exact h⟩
section
variable {X:Cx} {F:List Addr} {a b c:Expr} {es:List Expr} {fa fb fc:DE} {g g1 g2:DS} {ft fu:DT} {pos:Pos} {st:Stmt} {rest:List Stmt} {tg:Expr} {gt:TG} {kt:D→Th→Option Th}
theorem for_core {K:PySem.W.Frag} {J:It} {ds:List D} {E:Ends} {σ:L2.St} {H:Hp} {A:List Addr} {t:Th} {o:Out} (Good:List Addr→Hp→Prop) (ht:TgOk K F gt kt) (R:RS K F H A t σ) (e:forD kt g ds t=some o) (h:Post K F A H E o) (g0:Good A H)
    (keep:∀ A H A' H',Good A H→Gr A H A' H'→Good A' H') (stop:∀ A H,Good A H→J.stop ds.length H) (go:∀ A H i,Good A H→i < ds.length→J.go i H)
    (yld:∀ A H i x H',Good A H→Lists H (A ++ F)→J.yld i H x H'→i < ds.length→Same H H'∧∃ d,ds[i]?=some d∧Rep K (hide (A ++ F) H') d x) :
    ∃ W:Nat→Nat→L2.St→Hp→Prop,(∃ m,W 0 m σ H)∧∀ i m σ H,W i m σ H →
      (J.stop i H∧E.nx σ H) ∨ (J.go i H∧∃ N:L2.St→Hp→Prop,(∀ σ' H',N σ' H'→∃ m',m' < m∧W (i + 1) m' σ' H')∧∀ x H',J.yld i H x H'→gt x σ H' fun σ2 H2=>dS K F g { E with nx:=N,ct:=N,bk:=E.nx } σ2 H2):=by
  refine ⟨fun i m σ H=>i + m=ds.length∧∃ A t o,forD kt g (ds.drop i) t=some o∧RS K F H A t σ∧Post K F A H E o∧Good A H,⟨ds.length,by omega,A,t,o,by simpa using e,R,h,g0⟩,?_⟩
  rintro i m σ H ⟨hm,A,t,o,e,R,h,gd⟩
  cases m with
  | zero =>
    have z:i=ds.length:=by omega
    subst z
    rw [List.drop_length] at e
    cases e
    exact .inl ⟨stop A H gd,h σ H A (Gr.refl R.mu.left) R⟩
  | succ m =>
    have hi:i < ds.length:=by omega
    refine .inr ⟨go A H i gd hi,fun σ' H'=>i + 1 + m=ds.length∧∃ A t o,forD kt g (ds.drop (i + 1)) t=some o∧RS K F H' A t σ'∧Post K F A H' E o∧Good A H',fun σ' H' q=>⟨m,Nat.lt_succ_self m,q⟩,fun x H' y=>?_⟩
    obtain ⟨gs,d,hd,rd⟩:=yld A H i x H' gd R.mu y hi
    have ed:ds.drop i=d :: ds.drop (i + 1):=by
      have hd':ds[i]=d:=by
        rw [List.getElem?_eq_getElem hi] at hd
        exact Option.some.inj hd
      rw [← hd']
      exact List.drop_eq_getElem_cons hi
    rw [ed] at e
    simp only [forD] at e
    cases e1:kt d t with
    | none=>rw [e1] at e; cases e
    | some t1 =>
      rw [e1] at e
      refine ht σ H' A t t1 d x _ (R.grow gs) rd e1 fun σ2 A2 gr3 R2=>?_
      have gr2:Gr A H A2 H':=(Gr.of_same R.mu.left gs).trans gr3
      have e:((g t1).bind fun o=>match o with
          | .nx t'=>forD kt g (ds.drop (i + 1)) t'
          | .ct t'=>forD kt g (ds.drop (i + 1)) t'
          | .bk t'=>some (.nx t')
          | .rt r=>some (.rt r))=some o:=e
      cases e2:g t1 with
      | none=>rw [e2] at e; cases e
      | some o2 =>
        rw [e2] at e
        refine dS_mk R2 e2 ?_
        cases o2 with
        | nx t'=>exact fun σ' H' A' g' R'=>⟨by omega,A',t',o,e,R',h.back (gr2.trans g'),keep _ _ _ _ gd (gr2.trans g')⟩
        | ct t'=>exact fun σ' H' A' g' R'=>⟨by omega,A',t',o,e,R',h.back (gr2.trans g'),keep _ _ _ _ gd (gr2.trans g')⟩
        | bk t'=>cases e; exact fun σ' H' A' g' R'=>h σ' H' A' (gr2.trans g') R'
        | rt r=>cases e; exact Back.back h gr2
def dFor (k:D→Th→Option Th) (f:DE) (body:DS):DS:=fun t=>(f t).bind fun r=>match r.d with
  | .lst ds=>if r.ok then forD k body ds t else none
  | _=>none
theorem psd_for {body:List Stmt} (hp:PassesOwn (model X.prog X.w) X.A X.env X.xe) (hc:X.calm=true) (hl:PE X a (dE X.K F fa)) (hg:PG X tg gt) (ht:TgOk X.K F gt kt) (hb:PSs X body (dS X.K F g))
    (hs:∀ x,foldedSetIterable a X.env x=pure x:=by intro _; rfl):PS X (.For tg a body [] pos) (dS X.K F (dFor kt fa g)):=by
  refine PS.imp (ps_for hp hc (pi_list hl) hg hb hs) ?_
  intro E σ H hh
  obtain ⟨A,t,o,R,e,h⟩:=dS_of hh
  unfold dFor at e
  cases e1:fa t with
  | none=>rw [e1] at e; cases e
  | some r =>
    rw [e1] at e
    refine ⟨A,t,r,R,e1,fun v H1 gs q=>?_⟩
    have e:(match r.d with
      | .lst ds=>if r.ok then forD kt g ds t else none
      | _=>none)=some o:=e
    split at e
    case h_2=>cases e
    rename_i ds z
    split at e
    case isFalse=>cases e
    rename_i ok
    have cl:=q.clean R.mu gs ok
    rw [z] at cl
    cases cl with
    | @lst _ p vs h1 h2 =>
      refine ⟨p,rfl,⟨vs,SqL.mono (hide_sub _ _) h1⟩,?_⟩
      refine for_core (fun A H=>SqL X.K (hide (A ++ F) H) p vs∧Reps X.K (hide (A ++ F) H) ds vs) ht (R.grow gs) e (h.back (Gr.of_same R.mu.left gs)) ⟨h1,h2⟩ (fun A H A' H' q gr=>⟨SqL.mono gr.same q.1,Reps.mono gr.same q.2⟩)
        (fun A H q=>⟨vs,SqL.mono (hide_sub _ _) q.1,by rw [h2.length]; exact Nat.le_refl _⟩) (fun A H i q hi=>?_) (fun A H i x H' q _ y hi=>?_)
      · have hi':i < vs.length:=by rw [h2.length]; exact hi
        exact ⟨vs,vs[i],SqL.mono (hide_sub _ _) q.1,List.getElem?_eq_getElem hi'⟩
      · obtain ⟨e1,e2⟩:=y
        have z:=e2 vs (SqL.mono (hide_sub _ _) q.1)
        subst e1
        exact ⟨Same.refl _,q.2.getV z⟩
def rngD (lo:Int) (n:Nat):List D:=(List.range n).map fun (i:Nat)=>D.int (lo + (i:Int))
def bigI (i:Int):Bool:=decide (-1000000000000 ≤ i∧i ≤ 1000000000000)
def dRng1 (k:D→Th→Option Th) (f:DE) (body:DS):DS:=fun t=>(f t).bind fun r=>match r.d with
  | .int n=>if bigI n then forD k body (rngD 0 n.toNat) t else none
  | _=>none
def dRng2 (k:D→Th→Option Th) (f f':DE) (body:DS):DS:=fun t=>(f t).bind fun r=>(f' t).bind fun r'=>match r.d,r'.d with
  | .int lo, .int n=>if bigI n && bigI lo then forD k body (rngD lo (n - lo).toNat) t else none
  | _,_=>none
theorem rng_len (lo:Int) (n:Nat):(rngD lo n).length=n:=by simp [rngD]
theorem rng_core {K:PySem.W.Frag} {lo:Int} {n:Nat} {E:Ends} {σ:L2.St} {H:Hp} {A:List Addr} {t:Th} {o:Out} (ht:TgOk K F gt kt) (R:RS K F H A t σ) (e:forD kt g (rngD lo n) t=some o) (h:Post K F A H E o) :
    ∃ W:Nat→Nat→L2.St→Hp→Prop,(∃ m,W 0 m σ H)∧∀ i m σ H,W i m σ H →
      ((Itr lo n).stop i H∧E.nx σ H) ∨ ((Itr lo n).go i H∧∃ N:L2.St→Hp→Prop,(∀ σ' H',N σ' H'→∃ m',m' < m∧W (i + 1) m' σ' H')∧∀ x H',(Itr lo n).yld i H x H'→gt x σ H' fun σ2 H2=>dS K F g { E with nx:=N,ct:=N,bk:=E.nx } σ2 H2):=by
  refine for_core (fun _ _=>True) ht R e h trivial (fun _ _ _ _ _ _=>trivial) (fun A H _=>?_) (fun A H i _ hi=>?_) (fun A H i x H' _ _ y hi=>?_)
  · rw [rng_len]; exact Nat.le_refl n
  · rw [rng_len] at hi; exact hi
  · rw [rng_len] at hi
    obtain ⟨e1,e2⟩:=y
    subst e1
    refine ⟨Same.refl _, .int (lo + i),by simp [rngD,hi],?_⟩
    rw [e2]; exact .int _
theorem psd_rng1 {body:List Stmt} {p1 p2:Pos} (hp:PassesOwn (model X.prog X.w) X.A X.env X.xe) (hc:X.calm=true) (hgr:Gl X "range") (hm:X.mg "range"=none) (ha:PE X a (dE X.K F fa)) (hg:PG X tg gt) (ht:TgOk X.K F gt kt) (hb:PSs X body (dS X.K F g))
    (hst:starEach [a] X.env=[(false,eval a X.env)]:=by rfl) (hs:∀ x,foldedSetIterable (.Call (.Name "range" p1) [a] [] p2) X.env x=pure x:=by intro _; rfl):PS X (.For tg (.Call (.Name "range" p1) [a] [] p2) body [] pos) (dS X.K F (dRng1 kt fa g)):=by
  refine PS.imp (ps_for hp hc (pi_range1 hgr hm (pa_cons ha pa_nil hst) hst) hg hb hs) ?_
  intro E σ H hh
  obtain ⟨A,t,o,R,e,h⟩:=dS_of hh
  unfold dRng1 at e
  cases e1:fa t with
  | none=>rw [e1] at e; cases e
  | some r =>
    rw [e1] at e
    refine ⟨A,t,r,R,e1,fun v H1 gs q=>?_⟩
    have e:(match r.d with
      | .int n=>if bigI n then forD kt g (rngD 0 n.toNat) t else none
      | _=>none)=some o:=e
    split at e
    case h_2=>cases e
    rename_i n z
    split at e
    case isFalse=>cases e
    rename_i ok
    simp only [bigI,decide_eq_true_eq] at ok
    have p:=q.full
    rw [z] at p
    cases rep_int p
    exact ⟨n,rfl,by omega,by omega,rng_core ht (R.grow gs) e (h.back (Gr.of_same R.mu.left gs))⟩
theorem psd_rng2 {body:List Stmt} {p1 p2:Pos} (hp:PassesOwn (model X.prog X.w) X.A X.env X.xe) (hc:X.calm=true) (hgr:Gl X "range") (hm:X.mg "range"=none) (ha:PE X a (dE X.K F fa)) (hb':PE X b (dE X.K F fb)) (hg:PG X tg gt) (ht:TgOk X.K F gt kt) (hb:PSs X body (dS X.K F g))
    (hst:starEach [a,b] X.env=[(false,eval a X.env),(false,eval b X.env)]:=by rfl) (hst2:starEach [b] X.env=[(false,eval b X.env)]:=by rfl) (hs:∀ x,foldedSetIterable (.Call (.Name "range" p1) [a,b] [] p2) X.env x=pure x:=by intro _; rfl) :
    PS X (.For tg (.Call (.Name "range" p1) [a,b] [] p2) body [] pos) (dS X.K F (dRng2 kt fa fb g)):=by
  refine PS.imp (ps_for hp hc (pi_range2 hgr hm (pa_cons ha (pa_cons hb' pa_nil hst2) (by rw [hst,hst2])) hst hst2) hg hb hs) ?_
  intro E σ H hh
  obtain ⟨A,t,o,R,e,h⟩:=dS_of hh
  unfold dRng2 at e
  cases e1:fa t with
  | none=>rw [e1] at e; cases e
  | some r =>
    cases e2:fb t with
    | none=>rw [e1,e2] at e; cases e
    | some r' =>
      rw [e1,e2] at e
      refine ⟨A,t,r,R,e1,fun v H1 gs q=>⟨A,t,r',R.grow gs,e2,fun v2 H2 gs2 q2=>?_⟩⟩
      have e:(match r.d,r'.d with
        | .int lo, .int n=>if bigI n && bigI lo then forD kt g (rngD lo (n - lo).toNat) t else none
        | _,_=>none)=some o:=e
      split at e
      case h_2=>cases e
      rename_i lo n z1 z2
      split at e
      case isFalse=>cases e
      rename_i ok
      simp only [bigI,Bool.and_eq_true,decide_eq_true_eq] at ok
      have p:=q.full
      rw [z1] at p
      cases rep_int p
      have p':=q2.full
      rw [z2] at p'
      cases rep_int p'
      exact ⟨lo,n,rfl,⟨by omega,by omega,by omega,by omega⟩,rng_core ht (R.grow (gs.trans gs2)) e (h.back (Gr.of_same R.mu.left (gs.trans gs2)))⟩
end
end DL
namespace DL
open PySem PySem.Spec PyProof.Rows L2
theorem RSl.upd {K:PySem.W.Frag} {H0 H H':Hp} {ds es:List D} {ws:List V} {p:Addr} (hp:H' p=some (.lst ws)) (he:Reps K H0 es ws):∀ {t:Th} {σ:L2.St} {A:List Addr} (i:Nat),RSl K H0 H t σ A→A.Nodup→t[i]?=some (.own ds)→σ[i]?=some (some (.ref p)) →
    (∀ q ∈ A,q ≠ p→H' q=H q)→RSl K H0 H' (t.set i (.own es)) σ A
  | _,_,_,i, .nil,_,e,_,_=>by simp at e
  | _,_,_,0, .no r,_,e,_,_=>by simp at e
  | _,_,_,0, .val _ r,_,e,_,_=>by simp at e
  | _,_,_,0, .dp _ r,_,e,_,_=>by simp at e
  | _,_,_,i + 1, .dp (B:=B) h1 r,nd,e,e2,k=>by
    have n:=List.nodup_append.mp nd
    obtain ⟨p3,vs3,a1,a2,_⟩:=RSl.getOwn r (i:=i) (ds:=ds) (by simpa using e)
    have:p3=p:=by simpa [a1] using e2
    subst this
    refine .dp (RepD.mono (Same.refl _) h1 fun q hq o w=>?_) (RSl.upd hp he i r n.2.1 (by simpa using e) (by simpa using e2) fun q hq=>k q (List.mem_append_right _ hq))
    rw [k q (List.mem_append_left _ hq) (fun z=>n.2.2 q hq p3 a2 z)]; exact w
  | _,_,_,0, .own (p:=p2) (A:=A) h1 h2 r,nd,e,e2,k=>by
    simp at e2
    subst e2
    exact .own hp he (RSl.mono (Same.refl _) r fun q hq o h=>by
      have n:q ≠ p2:=fun z=>(List.nodup_cons.mp nd).1 (z ▸ hq)
      rw [k q (List.mem_cons_of_mem _ hq) n]; exact h)
  | _,_,_,i + 1, .no r,nd,e,e2,k => .no (RSl.upd hp he i r nd (by simpa using e) (by simpa using e2) k)
  | _,_,_,i + 1, .val h r,nd,e,e2,k => .val h (RSl.upd hp he i r nd (by simpa using e) (by simpa using e2) k)
  | _,_,_,i + 1, .own (p:=p2) h1 h2 r,nd,e,e2,k=>by
    have n:=List.nodup_cons.mp nd
    have e2':=(show _ from e2)
    obtain ⟨p3,vs3,a1,a2,_⟩:=RSl.getOwn r (i:=i) (ds:=ds) (by simpa using e)
    have:p3=p:=by simpa [a1] using e2
    subst this
    have np:p2 ≠ p3:=fun z=>n.1 (z ▸ a2)
    refine .own (by rw [k p2 (List.mem_cons_self ..) np]; exact h1) h2 (RSl.upd hp he i r n.2 (by simpa using e) (by simpa using e2) fun q hq=>k q (List.mem_cons_of_mem _ hq))
theorem RS.write {K:PySem.W.Frag} {F A:List Addr} {H:Hp} {t:Th} {σ:L2.St} {i:Nat} {ds es:List D} {ws:List V} {p:Addr} (R:RS K F H A t σ) (e:t[i]?=some (.own ds)) (e2:σ[i]?=some (some (.ref p))) (h:Reps K (hide (A ++ F) H) es ws) :
    RS K F (L2.upd H p (.lst ws)) A (t.set i (.own es)) σ∧Gr A H A (L2.upd H p (.lst ws)):=by
  obtain ⟨p',vs,a1,a2,a3,a4⟩:=R.rel.getOwn e
  have:p'=p:=by simpa [a1] using e2
  subst this
  have hh:Same (hide (A ++ F) H) (hide (A ++ F) (L2.upd H p' (.lst ws))):=fun b o q=>by
    obtain ⟨n,q⟩:=of_hide q
    have nb:b ≠ p':=fun z=>n (List.mem_append_left _ (z ▸ a2))
    exact hide_get (by rw [upd_ne nb]; exact q) n
  have mu:Lists (L2.upd H p' (.lst ws)) (A ++ F):=fun q hq=>by
    by_cases z:q=p'
    · exact ⟨mL ws,by rw [z]; exact upd_same⟩
    · obtain ⟨us,w⟩:=R.mu q hq
      exact ⟨us,by rw [upd_ne z]; exact w⟩
  refine ⟨⟨mu,R.nd,R.dj,RSl.upd upd_same (Reps.mono hh h) i (RSl.mono hh R.rel (H':=H) fun _ _ _ h=>h) R.nd e e2 fun q _ n=>upd_ne n⟩,?_⟩
  refine ⟨fun b o n q=>?_,fun b hb=>?_,fun b hb => .inl hb⟩
  · rw [upd_ne (fun z=>n (by rw [z]; exact a2))]; exact q
  · obtain ⟨us,w⟩:=mu b (List.mem_append_left _ hb)
    rw [w]; simp
def kApp (t:Th) (i:Nat) (r:Ev):Option Out:=match t[i]? with
  | some (.own xs)=>if r.ok && decide (xs.length < 100000) then some (.nx (t.set i (.own (xs ++ [r.d])))) else none
  | _=>none
def dApp (i:Nat) (f:DE):DS:=fun t=>(f t).bind (kApp t i)
section
variable {X:Cx} {F:List Addr} {a b c:Expr} {es:List Expr} {fa fb fc:DE} {g g1 g2:DS} {ft fu:DT} {pos:Pos} {st:Stmt} {rest:List Stmt} {tg:Expr} {gt:TG} {kt:D→Th→Option Th}
theorem psd_app (i:Nat) {x:Str} {p0 apos cpos:Pos} (he:PE X a (dE X.K F fa)) (hN:X.N[i]?=some x:=by rfl) (hv:Vis X.env.scope x:=by first | exact Or.inl rfl | exact Or.inr (Or.inl rfl) | exact Or.inr (Or.inr rfl)) (hd:(x == ("__debug__":Str))=false:=by decide)
    (hcd:(x == ("__classdict__":Str))=false:=by decide) (hst:starEach [a] X.env=[(false,eval a X.env)]:=by rfl)
    (hbase:attributeBase (.Name x p0) "append" X.env (eval (.Name x p0) X.env)=eval (.Name x p0) X.env:=by rfl)
    (hfew:((backTo cpos (starEach [a] X.env)).all (fun x => !x.1) && (backToKw cpos (keywordEach [] X.env)).all (fun x=>x.1.isSome)
      && decide ([a].length + ([]:List Keyword).length + (if ([]:List Keyword).isEmpty then 0 else 1) < 30))=true:=by rfl)
    (hline:(apos.endLine == cpos.line)=true:=by rfl) (hplain:(backTo cpos (starEach [] X.env)).any (·.1)=false:=by rfl)
    (hsw:swapsWith (.Call (.Attribute (.Name x p0) "append" apos) [a] [] cpos) none pos.line X.env=pure false:=by rfl) :
    PS X (.Expr (.Call (.Attribute (.Name x p0) "append" apos) [a] [] cpos) pos) (dS X.K F (dApp i fa)):=by
  refine PS.imp (ps_expr (pe_bm PySem.F.plainAttrs_list PySem.F.slot_list_append PySem.F.type_list_append mt_append (pe_var (i:=i) hN hv hd hcd) (pa_cons he pa_nil hst) hbase hfew hline hst hplain) hsw) ?_
  rintro E σ H ⟨A,t,o,R,e,h⟩
  unfold dApp at e
  cases e1:fa t with
  | none=>rw [e1] at e; cases e
  | some r =>
    rw [e1] at e
    have e:kApp t i r=some o:=e
    unfold kApp at e
    split at e
    case h_2=>cases e
    rename_i xs z
    split at e
    case isFalse=>cases e
    rename_i ok
    simp only [Bool.and_eq_true,decide_eq_true_eq] at ok
    cases e
    obtain ⟨p,vs,a1,a2,a3,a4⟩:=R.rel.getOwn z
    refine ⟨_,a1, .inl ⟨rfl,vs,SqL.of a3⟩,A,t,r,R,e1,fun y H1 gs q=>⟨p,vs,y,rfl,rfl,gs _ _ a3,?_,?_⟩⟩
    · have:vs.length < 100000:=by rw [a4.length]; exact ok.2
      exact Nat.lt_of_lt_of_le this (by rw [sizeLine_eq]; decide)
    · obtain ⟨R',g'⟩:=(R.grow gs).write (es:=xs ++ [r.d]) (ws:=vs ++ [y]) z a1 ((Reps.mono (same_hide gs) a4).app (Reps.one (q.clean R.mu gs ok.1)))
      exact h _ _ _ ((Gr.of_same R.mu.left gs).trans g') R'
def kIx:Ev→Ev→Option Ev:=fun r1 r2=>match r1.d,r2.d with
  | .lst ds, .int i=>(atI ds i).map fun d=>if r1.ok || flat d then .cl d else .tm d
  | .tup ds, .int i=>(atI ds i).map fun d=>if r1.ok || flat d then .cl d else .tm d
  | _,_=>none
theorem Reps.atI {K:PySem.W.Frag} {H:Hp} {ds:List D} {vs:List V} (r:Reps K H ds vs) {i:Int} {d:D} (e:L2.atI ds i=some d):∃ v,L2.atI vs i=some v∧Rep K H d v:=by
  unfold L2.atI at e ⊢
  rw [r.length]
  cases e1:ixN ds.length i with
  | none=>rw [e1] at e; cases e
  | some j=>rw [e1] at e; exact r.get e
theorem ped_ix (ha:PE X a (dE X.K F fa)) (hb:PE X b (dE X.K F fb)) (hs:PlainIx b:=by intro _ _; rfl):PE X (.Subscript a b pos) (dE X.K F (d2 kIx fa fb)):=by
  refine PE.imp (pe_ix (ix_list.or ix_tup) ha hb hs) ?_
  intro σ H Q h
  obtain ⟨A,t,r1,r2,r,R,e1,e2,e,h,w⟩:=two h
  refine ⟨A,t,r1,R,e1,fun x H1 gs1 q1=>⟨A,t,r2,R.grow gs1,e2,fun y H2 gs2 q2=>?_⟩⟩
  have q1:=q1.mono gs2
  have gs:=gs1.trans gs2
  have p2:=q2.full
  have m2:=R.mu.mono gs
  have key:∀ (P:List Addr),Rep X.K (hide P H2) r1.d x→(∀ d v,Rep X.K (hide P H2) d v→RepEv X.K F A H H2 (if r1.ok || flat d then Ev.cl d else Ev.tm d) v)→rIxL X.K x y H2 Q ∨ rIxT X.K x y H2 Q:=fun P hP fin=>by
    unfold kIx at e
    split at e
    · rename_i ds i z1 z2
      rw [z2] at p2
      cases rep_int p2
      rw [z1] at hP
      cases hP with
      | @lst _ p vs h1 h2 =>
        cases e4:atI ds i with
        | none=>rw [e4] at e; cases e
        | some d =>
          rw [e4] at e
          have e:(if r1.ok || flat d then Ev.cl d else Ev.tm d)=r:=by simpa using e
          obtain ⟨v,e5,rv⟩:=Reps.atI h2 e4
          exact .inl ⟨p,vs,i,v,rfl,rfl,SqL.mono (hide_sub _ _) h1,e5,h v H2 gs (e ▸ fin d v rv)⟩
    · rename_i ds i z1 z2
      rw [z2] at p2
      cases rep_int p2
      rw [z1] at hP
      cases hP with
      | @tup _ p vs h1 h2 =>
        cases e4:atI ds i with
        | none=>rw [e4] at e; cases e
        | some d =>
          rw [e4] at e
          have e:(if r1.ok || flat d then Ev.cl d else Ev.tm d)=r:=by simpa using e
          obtain ⟨v,e5,rv⟩:=Reps.atI h2 e4
          exact .inr ⟨p,vs,i,v,rfl,rfl,SqT.mono (hide_sub _ _) h1,e5,h v H2 gs (e ▸ fin d v rv)⟩
    · cases e
  by_cases c:r1.ok=true
  · refine key (A ++ F) (q1.clean R.mu gs c) fun d v rv=>?_
    rw [c,Bool.true_or,if_pos rfl]
    exact rv
  · refine key F (q1.cleanF R.mu) fun d v rv=>?_
    have c:r1.ok=false:=by simpa using c
    rw [c,Bool.false_or]
    split
    · rename_i f; exact Rep.hid m2 f (Rep.mono (hide_sub _ _) rv)
    · exact rv
def kCat:Ev→Ev→Option Ev:=fun r1 r2=>match r1.d,r2.d with
  | .lst ds, .lst es=>if (r1.ok || flats ds) && (r2.ok || flats es) && decide (ds.length + es.length ≤ 100000) then some (.nw (ds ++ es)) else none
  | _,_=>none
theorem RepEv.items {K:PySem.W.Frag} {F A:List Addr} {H H':Hp} {r:Ev} {v:V} {ds:List D} (m:Lists H (A ++ F)) (gs:Same H H') (q:RepEv K F A H H' r v) (z:r.d = .lst ds) (c:(r.ok || flats ds)=true) :
    ∃ p vs,v = .ref p∧SqL K H' p vs∧Reps K (hide (A ++ F) H') ds vs:=by
  rcases Bool.or_eq_true _ _ ▸ c with c | c
  · have w:=q.clean m gs c
    rw [z] at w
    cases w with
    | @lst _ p vs h1 h2=>exact ⟨p,vs,rfl,SqL.mono (hide_sub _ _) h1,h2⟩
  · have w:=q.full
    rw [z] at w
    cases w with
    | @lst _ p vs h1 h2=>exact ⟨p,vs,rfl,h1,Reps.hid (m.mono gs) c h2⟩
theorem cat_any {E:Value→Shared→Prop} {A:Around} {prog:Program} {w:World} {s:Shared} {l b:Addr} {vs ws:List Value} {Q:Value→Shared→Prop} (hl:PlainL s.heap l vs.toArray) (hb:PlainL s.heap b ws.toArray)
    (h:Q (.ref s.heap.objs.size) { s with heap:=s.heap.push { cls := .type "list",data := .seq (vs ++ ws).toArray } }) (hsz:vs.length + ws.length ≤ sizeLine) :
    wpAny (model prog w) A (binaryOp .Add (.ref l) (.ref b)) Q E s:=by
  obtain ⟨⟨cls,dd,data,sl⟩,n,ho,hc,hdd,hd⟩:=id hl
  obtain ⟨⟨cls2,dd2,data2,sl2⟩,n2,ho2,hc2,hdd2,hd2⟩:=id hb
  simp only at hc hd hc2 hd2
  subst hc hd hc2 hd2
  have e:vs.toArray ++ ws.toArray=(vs ++ ws).toArray:=by simp
  refine concat_meets ⟨_,ho,rfl⟩ ⟨_,ho2,rfl⟩ noFill_list_add seq_list_add PySem.F.slot_list_add PySem.F.entry_list_add (PySem.F.args_list_add_2 _ _) (list_addW l b vs.toArray ws.toArray n n2 dd dd2 sl sl2 (by simpa using hsz)) ⟨ho,ho2,?_⟩
  rw [e]
  exact h
theorem od_cat:OpD X F (binaryOp .Add) kCat:=by
  intro pins s σ H0 H A x y v u Q r1 r2 r I m g0 rx ry q1 q2 e hq
  unfold kCat at e
  split at e
  case h_2=>cases e
  rename_i ds es' z1 z2
  split at e
  case isFalse=>cases e
  rename_i c
  simp only [Bool.and_eq_true,decide_eq_true_eq] at c
  cases e
  obtain ⟨p,vs,rfl,h1,h2⟩:=q1.items m g0 z1 c.1.1
  obtain ⟨p',ws,rfl,h1',h2'⟩:=q2.items m g0 z2 c.1.2
  cases rx
  cases ry
  obtain ⟨its,w1,w2,w3⟩:=I.list h1
  obtain ⟨its',w1',w2',w3'⟩:=I.list h1'
  have l1:=h2.length
  have l2:=h2'.length
  have l3:=w1.length
  have l4:=w1'.length
  have hz:vs.length + ws.length ≤ sizeLine:=le_line (by omega)
  refine cat_any w2 w2' ⟨.ref _,_,I.lnew (t':=s.toks) (w1.append w1') (by rw [List.length_append]; exact hz),rfl,?_⟩ (by omega)
  refine hq _ _ (upd_sameH I.fresh) ⟨_,_,rfl,Same.free g0 I.fresh,upd_same,Reps.mono (hide_upd I.fresh) (h2.app h2')⟩
mutual
def eqD:D→D→Bool
  | .non, .non=>true
  | .bl a, .bl b=>decide (a=b)
  | .int a, .int b=>decide (a=b)
  | .str a, .str b=>decide (a=b)
  | .tup a, .tup b=>eqDs a b
  | .lst a, .lst b=>eqDs a b
  | .dct ks a, .dct ks' b=>decide (ks=ks') && eqDs a b
  | .pdc a, .pdc b=>decide (a=b)
  | _,_=>false
def eqDs:List D→List D→Bool
  | [],[]=>true
  | a :: as,b :: bs=>eqD a b && eqDs as bs
  | _,_=>false
end
def eqOk:Nat→D→D→Bool
  | _, .non, .non=>true
  | _, .bl _, .bl _=>true
  | _, .int _, .int _=>true
  | _, .str _, .str _=>true
  | _, .non, .int _=>true
  | _, .int _, .non=>true
  | _, .non, .str _=>true
  | _, .str _, .non=>true
  | _, .non, .bl _=>true
  | _, .bl _, .non=>true
  | _, .int _, .str _=>true
  | _, .str _, .int _=>true
  | n + 1, .tup xs, .tup ys=>(xs.zip ys).all fun p=>eqOk n p.1 p.2
  | n + 1, .lst xs, .lst ys=>(xs.zip ys).all fun p=>eqOk n p.1 p.2
  | _,_,_=>false
theorem dct_cls {pins:List (Addr × Obj)} {s:Shared} {σ:L2.St} {H:Hp} {p:Addr} {kvs:List (Key × V)} (I:Inv X pins σ H s) (h:H p=some (.dK kvs)):∃ o,s.heap.get? p=some o∧o.cls = .type "dict":=by
  obtain ⟨_,_,vs,_,m⟩:kvs.length ≤ sizeLine∧(p == sysModules)=false∧∃ vs,KV kvs vs∧s.heap.DictOf (mixKind X.prog X.w) p vs:=I.hok p _ h
  exact m.typeIs
theorem pdc_cls {pins:List (Addr × Obj)} {s:Shared} {σ:L2.St} {H:Hp} {p:Addr} {kvs:List (List Key × V)} (I:Inv X pins σ H s) (h:H p=some (.dT kvs)):∃ o,s.heap.get? p=some o∧o.cls = .type "dict":=by
  obtain ⟨_,_,xs,_,o,es,ep,h1,h2,_⟩:=(show ObjOk X.prog X.w H s.heap p (.dT kvs) from I.hok p _ h)
  exact ⟨o,h1,h2.1⟩
theorem pkv_inj:∀ {a b:List (Int × Int)},pkv a=pkv b→a=b
  | [],[],_=>rfl
  | [],_ :: _,h=>by simp [pkv] at h
  | _ :: _,[],h=>by simp [pkv] at h
  | (x,y) :: a,(z,w) :: b,h=>by
    simp only [pkv,List.map_cons,List.cons.injEq,Prod.mk.injEq,Sum.inl.injEq,and_true] at h
    rw [h.1.1,h.1.2,pkv_inj (a:=a) (b:=b) h.2]
theorem zip_inj {ks ks':List Key} {vs vs':List V} (l:ks.length=vs.length) (l':ks'.length=vs'.length) (h:mkKV ks vs=mkKV ks' vs'):ks=ks'∧vs=vs':=by
  unfold mkKV at h
  have h1:=congrArg (List.map Prod.fst) h
  have h2:=congrArg (List.map Prod.snd) h
  rw [List.map_fst_zip (by omega),List.map_fst_zip (by omega)] at h1
  rw [List.map_snd_zip (by omega),List.map_snd_zip (by omega)] at h2
  exact ⟨h1,h2⟩
mutual
theorem Rep.inj {pins:List (Addr × Obj)} {s:Shared} {σ:L2.St} {H:Hp} (I:Inv X pins σ H s):∀ {d e:D} {v:V},Rep X.K H d v→Rep X.K H e v→d=e
  | _,_,_, .non, .non=>rfl
  | _,_,_, .bl _, .bl _=>rfl
  | _,_,_, .int _, .int _=>rfl
  | _,_,_, .str _, .str _=>rfl
  | _,_,_, .tup h1 r1, .tup h2 r2=>by
    have e:=I.tuple_inj h1 h2
    subst e
    rw [Reps.inj I r1 r2]
  | _,_,_, .lst h1 r1, .lst h2 r2=>by
    have e:=I.list_inj h1 h2
    subst e
    rw [Reps.inj I r1 r2]
  | _,_,_, .tup h1 r1, .lst h2 r2=>by
    obtain ⟨its,_,⟨o,e,c,_⟩,_⟩:=I.tuple h1
    obtain ⟨its',_,⟨o',n',e',c',_⟩,_⟩:=I.list h2
    rw [e] at e'; cases e'
    rw [c] at c'; exact absurd c' (by decide +kernel)
  | _,_,_, .lst h1 r1, .tup h2 r2=>by
    obtain ⟨its,_,⟨o,e,c,_⟩,_⟩:=I.tuple h2
    obtain ⟨its',_,⟨o',n',e',c',_⟩,_⟩:=I.list h1
    rw [e] at e'; cases e'
    rw [c] at c'; exact absurd c' (by decide +kernel)
  | _,_,_, .tup h1 r1, .dct _ h2 r2=>by
    obtain ⟨its,_,⟨o,e,c,_⟩,_⟩:=I.tuple h1
    obtain ⟨o',e',c'⟩:=dct_cls I h2
    rw [e] at e'; cases e'
    rw [c] at c'; exact absurd c' (by decide +kernel)
  | _,_,_, .dct _ h2 r2, .tup h1 r1=>by
    obtain ⟨its,_,⟨o,e,c,_⟩,_⟩:=I.tuple h1
    obtain ⟨o',e',c'⟩:=dct_cls I h2
    rw [e] at e'; cases e'
    rw [c] at c'; exact absurd c' (by decide +kernel)
  | _,_,_, .lst h1 r1, .dct _ h2 r2=>by
    obtain ⟨its,_,⟨o,n,e,c,_⟩,_⟩:=I.list h1
    obtain ⟨o',e',c'⟩:=dct_cls I h2
    rw [e] at e'; cases e'
    rw [c] at c'; exact absurd c' (by decide +kernel)
  | _,_,_, .dct _ h2 r2, .lst h1 r1=>by
    obtain ⟨its,_,⟨o,n,e,c,_⟩,_⟩:=I.list h1
    obtain ⟨o',e',c'⟩:=dct_cls I h2
    rw [e] at e'; cases e'
    rw [c] at c'; exact absurd c' (by decide +kernel)
  | _,_,_, .tup h1 r1, .pdc h2=>by
    obtain ⟨its,_,⟨o,e,c,_⟩,_⟩:=I.tuple h1
    obtain ⟨o',e',c'⟩:=pdc_cls I h2
    rw [e] at e'; cases e'
    rw [c] at c'; exact absurd c' (by decide +kernel)
  | _,_,_, .pdc h2, .tup h1 r1=>by
    obtain ⟨its,_,⟨o,e,c,_⟩,_⟩:=I.tuple h1
    obtain ⟨o',e',c'⟩:=pdc_cls I h2
    rw [e] at e'; cases e'
    rw [c] at c'; exact absurd c' (by decide +kernel)
  | _,_,_, .lst h1 r1, .pdc h2=>by
    obtain ⟨its,_,⟨o,n,e,c,_⟩,_⟩:=I.list h1
    obtain ⟨o',e',c'⟩:=pdc_cls I h2
    rw [e] at e'; cases e'
    rw [c] at c'; exact absurd c' (by decide +kernel)
  | _,_,_, .pdc h2, .lst h1 r1=>by
    obtain ⟨its,_,⟨o,n,e,c,_⟩,_⟩:=I.list h1
    obtain ⟨o',e',c'⟩:=pdc_cls I h2
    rw [e] at e'; cases e'
    rw [c] at c'; exact absurd c' (by decide +kernel)
  | _,_,_, .dct _ h1 r1, .pdc h2=>by rw [h1] at h2; cases h2
  | _,_,_, .pdc h2, .dct _ h1 r1=>by rw [h1] at h2; cases h2
  | _,_,_, .pdc h1, .pdc h2=>by
    rw [h1] at h2
    injection h2 with h2
    injection h2 with h2
    rw [pkv_inj h2]
  | _,_,_, .dct l1 h1 r1, .dct l2 h2 r2=>by
    rw [h1] at h2
    obtain ⟨e1,e2⟩:=zip_inj l1 l2 (by injection h2 with h2; injection h2)
    subst e1 e2
    rw [Reps.inj I r1 r2]
theorem Reps.inj {pins:List (Addr × Obj)} {s:Shared} {σ:L2.St} {H:Hp} (I:Inv X pins σ H s):∀ {ds es:List D} {vs:List V},Reps X.K H ds vs→Reps X.K H es vs→ds=es
  | _,_,_, .nil, .nil=>rfl
  | _,_,_, .cons h r, .cons h' r'=>by rw [Rep.inj I h h',Reps.inj I r r']
end
mutual
theorem eqD_iff:∀ {a b:D},eqD a b=true ↔ a=b
  | .non,b=>by cases b <;> simp [eqD]
  | .bl _,b=>by cases b <;> simp [eqD]
  | .int _,b=>by cases b <;> simp [eqD]
  | .str _,b=>by cases b <;> simp [eqD]
  | .tup xs,b=>by
    cases b with
    | tup ys=>simp only [eqD,D.tup.injEq]; exact eqDs_iff
    | _=>simp [eqD]
  | .lst xs,b=>by
    cases b with
    | lst ys=>simp only [eqD,D.lst.injEq]; exact eqDs_iff
    | _=>simp [eqD]
  | .dct ks xs,b=>by
    cases b with
    | dct ks' ys=>simp only [eqD,D.dct.injEq,Bool.and_eq_true,decide_eq_true_eq]; rw [eqDs_iff (a:=xs) (b:=ys)]
    | _=>simp [eqD]
  | .pdc a,b=>by cases b <;> simp [eqD]
theorem eqDs_iff:∀ {a b:List D},eqDs a b=true ↔ a=b
  | [],b=>by cases b <;> simp [eqDs]
  | x :: xs,b=>by
    cases b with
    | nil=>simp [eqDs]
    | cons y ys =>
      simp only [eqDs,Bool.and_eq_true,List.cons.injEq]
      rw [eqD_iff (a:=x) (b:=y),eqDs_iff (a:=xs) (b:=ys)]
end
theorem eqD_true {a b:D}:eqD a b=true ↔ a=b:=eqD_iff
theorem eqD_false {a b:D}:eqD a b=false ↔ ¬ a=b:=by rw [← eqD_true]; simp
def eAt (xs ys:List D) (j:Nat):Bool:=match xs[j]?,ys[j]? with
  | some a,some b=>eqD a b
  | _,_=>true
end
end DL
namespace DL
open PySem PySem.Spec PyProof.Rows L2
theorem PlainL.isL {h:Heap} {a:Addr} {its:Array Value} (p:PlainL h a its):h.IsList a its:=by
  obtain ⟨o,n,e,c,_,d⟩:=p
  exact ⟨o,e,c,n,d⟩
section
variable {X:Cx} {F:List Addr} {a b c:Expr} {es:List Expr} {fa fb fc:DE} {g g1 g2:DS} {ft fu:DT} {pos:Pos} {st:Stmt} {rest:List Stmt} {tg:Expr} {gt:TG} {kt:D→Th→Option Th}
def scD:D→Bool
  | .tup _=>false
  | .lst _=>false
  | .dct _ _=>false
  | .pdc _=>false
  | _=>true
theorem eqV_D {K:PySem.W.Frag} {H:Hp} {n:Nat} {d e:D} {v u:V} (r:Rep K H d v) (q:Rep K H e u) (s1:scD d=true) (s2:scD e=true) (ok:eqOk n d e=true):flatV v=true∧flatV u=true∧eqV v u=eqD d e:=by
  cases r <;> cases q <;> simp_all [scD,eqOk,flatV,eqV,eqD]
  all_goals (rw [Bool.eq_iff_iff]; simp)
theorem all_eAt {xs ys:List D} (h:xs.length=ys.length):(List.range xs.length).all (eAt xs ys)=eqD (.lst xs) (.lst ys):=by
  rw [Bool.eq_iff_iff,eqD_true,List.all_eq_true]
  constructor
  · intro hh
    congr 1
    apply List.ext_getElem h
    intro i h1 h2
    have:=hh i (List.mem_range.mpr h1)
    simp only [eAt,List.getElem?_eq_getElem h1,List.getElem?_eq_getElem h2] at this
    exact eqD_true.mp this
  · intro hh i hi
    injection hh with hh
    subst hh
    simp only [eAt]
    split
    · rename_i a b z1 z2
      rw [z1] at z2; cases z2
      exact eqD_true.mpr rfl
    · rfl
theorem all_eAtT {xs ys:List D}:((List.range (min xs.length ys.length)).all (eAt xs ys) && xs.length == ys.length)=eqD (.tup xs) (.tup ys):=by
  by_cases h:xs.length=ys.length
  · have e:min xs.length ys.length=xs.length:=by omega
    rw [e,all_eAt h,beq_iff_eq.mpr h,Bool.and_true]
    rw [Bool.eq_iff_iff,eqD_true,eqD_true]
    simp
  · have e:(xs.length == ys.length)=false:=by simpa using h
    rw [e,Bool.and_false]
    symm
    rw [eqD_false]
    intro z
    injection z with z
    exact h (by rw [z])
theorem zip_all {n:Nat} {xs ys:List D} (h:((xs.zip ys).all fun p=>eqOk n p.1 p.2)=true) {j:Nat} {x y:D} (hx:xs[j]?=some x) (hy:ys[j]?=some y):eqOk n x y=true:=by
  rw [List.all_eq_true] at h
  refine h (x,y) (List.mem_of_getElem? (i:=j) ?_)
  rw [List.getElem?_zip_eq_some]
  exact ⟨hx,hy⟩
theorem in1_units {A:Around}:A.in1.units=A.units + 1:=rfl
theorem Vals.getL {vs:List V} {us:List Value} (h:Vals vs us) {j:Nat} (hj:j < us.toArray.size):∃ v,vs[j]?=some v∧RelV v us.toArray[j]:=by
  have hj':j < vs.length:=by rw [h.length]; simpa using hj
  obtain ⟨u,e,r⟩:=Vals.get h (List.getElem?_eq_getElem hj')
  refine ⟨_,List.getElem?_eq_getElem hj',?_⟩
  have:us.toArray[j]=u:=by
    have hj2:j < us.length:=by simpa using hj
    have:=List.getElem?_eq_getElem hj2
    rw [e] at this
    simpa using (Option.some.inj this).symm
  rw [this]; exact r
theorem eqAt_D {pins:List (Addr × Obj)} {s:Shared} {σ:L2.St} {H:Hp} (I:Inv X pins σ H s):∀ (n:Nat) (A:Around) (d e:D) (v u:V) (y z:Value),A.units + n < cLine→eqOk n d e=true→Rep X.K H d v→Rep X.K H e u→RelV v y→RelV u z→SeqAt.EqAt A s y z (eqD d e):=by
  intro n
  induction n with
  | zero =>
    intro A d e v u y z hu ok r q ry rz
    have s1:scD d=true:=by cases d <;> cases e <;> simp_all [scD,eqOk]
    have s2:scD e=true:=by cases d <;> cases e <;> simp_all [scD,eqOk]
    obtain ⟨f1,f2,ee⟩:=eqV_D r q s1 s2 ok
    rw [← ee]
    exact eqAt_V ry rz f1 f2
  | succ n ih =>
    intro A d e v u y z hu ok r q ry rz
    by_cases s1:scD d=true
    · have s2:scD e=true:=by cases d <;> cases e <;> simp_all [scD,eqOk]
      obtain ⟨f1,f2,ee⟩:=eqV_D r q s1 s2 ok
      rw [← ee]
      exact eqAt_V ry rz f1 f2
    · have hu':A.in1.units + n < cLine:=by rw [in1_units]; omega
      have hu0:A.units < cLine:=by omega
      cases r with
      | @tup xs p vs h1 h2 =>
        cases q with
        | @tup ys p' ws h1' h2' =>
          cases ry; cases rz
          by_cases z:p=p'
          · subst z
            have e:=Rep.inj I (.tup h1 h2) (.tup h1' h2')
            rw [eqD_true.mpr e]
            exact SeqAt.EqAt.same _
          · obtain ⟨its,w1,w2,_⟩:=I.tuple h1
            obtain ⟨its',w1',w2',_⟩:=I.tuple h1'
            refine SeqAt.EqAt.of_refs z ?_
            have k:=SeqAt.RcAt.tuples (A:=A) (e:=eAt xs ys) w2 w2' hu0 (fun j g1 g2=>by
              obtain ⟨v1,a1,a2⟩:=Vals.getL w1 g1
              obtain ⟨v2,b1,b2⟩:=Vals.getL w1' g2
              obtain ⟨x1,c1,c2⟩:=h2.getV a1
              obtain ⟨x2,d1,d2⟩:=h2'.getV b1
              have:=ih A.in1 x1 x2 v1 v2 _ _ hu' (zip_all (by simpa [eqOk] using ok) c1 d1) c2 d2 a2 b2
              have ee:eAt xs ys j=eqD x1 x2:=by simp only [eAt,c1,d1]
              rw [ee]; exact this)
            have l1:its.toArray.size=xs.length:=by have:=w1.length; have:=h2.length; simp; omega
            have l2:its'.toArray.size=ys.length:=by have:=w1'.length; have:=h2'.length; simp; omega
            rw [l1,l2,all_eAtT] at k
            exact k
        | _=>simp_all [eqOk]
      | @lst xs p vs h1 h2 =>
        cases q with
        | @lst ys p' ws h1' h2' =>
          cases ry; cases rz
          by_cases z:p=p'
          · subst z
            have e:=Rep.inj I (.lst h1 h2) (.lst h1' h2')
            rw [eqD_true.mpr e]
            exact SeqAt.EqAt.same _
          · obtain ⟨its,w1,w2,_⟩:=I.list h1
            obtain ⟨its',w1',w2',_⟩:=I.list h1'
            refine SeqAt.EqAt.of_refs z ?_
            have l1:its.toArray.size=xs.length:=by have:=w1.length; have:=h2.length; simp; omega
            have l2:its'.toArray.size=ys.length:=by have:=w1'.length; have:=h2'.length; simp; omega
            by_cases hl:xs.length=ys.length
            · have k:=SeqAt.RcAt.lists (A:=A) (e:=eAt xs ys) (PlainL.isL w2) (PlainL.isL w2') (by rw [l1,l2]; exact hl) hu0 (fun j g1 g2=>by
                obtain ⟨v1,a1,a2⟩:=Vals.getL w1 g1
                obtain ⟨v2,b1,b2⟩:=Vals.getL w1' g2
                obtain ⟨x1,c1,c2⟩:=h2.getV a1
                obtain ⟨x2,d1,d2⟩:=h2'.getV b1
                have:=ih A.in1 x1 x2 v1 v2 _ _ hu' (zip_all (by simpa [eqOk] using ok) c1 d1) c2 d2 a2 b2
                have ee:eAt xs ys j=eqD x1 x2:=by simp only [eAt,c1,d1]
                rw [ee]; exact this)
              rw [l1,all_eAt hl] at k
              exact k
            · have ee:eqD (.lst xs) (.lst ys)=false:=eqD_false.mpr fun z=>hl (by injection z with z; rw [z])
              rw [ee]
              exact SeqAt.RcAt.lists_lengths (PlainL.isL w2) (PlainL.isL w2') (by rw [l1,l2]; simpa using hl) hu0
        | _=>simp_all [eqOk]
      | dct=>exact absurd ok (by cases e <;> simp [eqOk])
      | pdc=>exact absurd ok (by cases e <;> simp [eqOk])
      | _=>simp_all [scD]
theorem seqAts {pins:List (Addr × Obj)} {s:Shared} {σ:L2.St} {H:Hp} (I:Inv X pins σ H s) {n:Nat} {A:Around} {xs ys:List D} {vs ws:List V} {its its':List Value} (hu:A.units + n + 1 < cLine) (ok:((xs.zip ys).all fun p=>eqOk n p.1 p.2)=true)
    (h2:Reps X.K H xs vs) (h2':Reps X.K H ys ws) (w1:Vals vs its) (w1':Vals ws its'):∀ j (g1:j < its.toArray.size) (g2:j < its'.toArray.size),SeqAt.EqAt A.in1 s its.toArray[j] its'.toArray[j] (eAt xs ys j):=fun j g1 g2=>by
  obtain ⟨v1,a1,a2⟩:=Vals.getL w1 g1
  obtain ⟨v2,b1,b2⟩:=Vals.getL w1' g2
  obtain ⟨x1,c1,c2⟩:=h2.getV a1
  obtain ⟨x2,d1,d2⟩:=h2'.getV b1
  have:=eqAt_D I n A.in1 x1 x2 v1 v2 _ _ (by rw [in1_units]; omega) (zip_all ok c1 d1) c2 d2 a2 b2
  have ee:eAt xs ys j=eqD x1 x2:=by simp only [eAt,c1,d1]
  rw [ee]; exact this
def kEq:Ev→Ev→Option Ev:=fun r1 r2=>if eqOk 6 r1.d r2.d then some (.cl (.bl (eqD r1.d r2.d))) else none
def kNe:Ev→Ev→Option Ev:=fun r1 r2=>if eqOk 6 r1.d r2.d then some (.cl (.bl (!eqD r1.d r2.d))) else none
theorem scal_D {K:PySem.W.Frag} {H:Hp} {n:Nat} {d e:D} {v u:V} (r:Rep K H d v) (q:Rep K H e u) (s1:scD d=true) (ok:eqOk n d e=true):scal v u=true∧decide (v=u)=eqD d e:=by
  cases r <;> cases q <;> simp_all [scD,eqOk,scal,eqD]
theorem od_eq (hu:X.A.units + 64 < cLine):OpD X F (compareOp .Eq) kEq:=by
  intro pins s σ H0 H A x y v u Q r1 r2 r I m g0 rx ry q1 q2 e hq
  unfold kEq at e
  split at e
  case isFalse=>cases e
  rename_i ok
  cases e
  have p1:=q1.full
  have p2:=q2.full
  by_cases s1:scD r1.d=true
  · obtain ⟨a1,a2⟩:=scal_D p1 p2 s1 ok
    exact op_eq pins s σ H x y v u Q I rx ry ⟨a1,by rw [a2]; exact hq _ H (Same.refl H) (.bl _)⟩
  · generalize r1.d=d1 at *
    generalize r2.d=d2 at *
    have hu0:X.A.units < cLine:=by omega
    cases p1 with
    | @tup xs p vs h1 h2 =>
      cases p2 with
      | @tup ys p' ws h1' h2' =>
        cases rx; cases ry
        obtain ⟨its,w1,w2,_⟩:=I.tuple h1
        obtain ⟨its',w1',w2',_⟩:=I.tuple h1'
        have l1:its.toArray.size=xs.length:=by have:=w1.length; have:=h2.length; simp; omega
        have l2:its'.toArray.size=ys.length:=by have:=w1'.length; have:=h2'.length; simp; omega
        refine SeqAt.eq_tupleAt w2 w2' hu0 (seqAts I (n:=5) (by omega) (by simpa [eqOk] using ok) h2 h2' w1 w1') ?_
        rw [l1,l2,all_eAtT]
        exact ⟨.bl _,H,I,rfl,hq _ H (Same.refl H) (.bl _)⟩
      | _=>simp_all [eqOk]
    | @lst xs p vs h1 h2 =>
      cases p2 with
      | @lst ys p' ws h1' h2' =>
        cases rx; cases ry
        obtain ⟨its,w1,w2,_⟩:=I.list h1
        obtain ⟨its',w1',w2',_⟩:=I.list h1'
        have l1:its.toArray.size=xs.length:=by have:=w1.length; have:=h2.length; simp; omega
        have l2:its'.toArray.size=ys.length:=by have:=w1'.length; have:=h2'.length; simp; omega
        by_cases hl:xs.length=ys.length
        · refine SeqAt.eq_listAt (PlainL.isL w2) (PlainL.isL w2') (by rw [l1,l2]; exact hl) hu0 (seqAts I (n:=5) (by omega) (by simpa [eqOk] using ok) h2 h2' w1 w1') ?_
          rw [l1,all_eAt hl]
          exact ⟨.bl _,H,I,rfl,hq _ H (Same.refl H) (.bl _)⟩
        · have ee:eqD (.lst xs) (.lst ys)=false:=eqD_false.mpr fun z=>hl (by injection z with z; rw [z])
          rw [ee] at hq
          exact SeqAt.eq_list_lengthsAt (PlainL.isL w2) (PlainL.isL w2') (by rw [l1,l2]; simpa using hl) hu0 ⟨.bl _,H,I,rfl,hq _ H (Same.refl H) (.bl _)⟩
      | _=>simp_all [eqOk]
    | dct=>exact absurd ok (by cases d2 <;> simp [eqOk])
    | pdc=>exact absurd ok (by cases d2 <;> simp [eqOk])
    | _=>simp_all [scD]
theorem od_ne (hu:X.A.units + 64 < cLine):OpD X F (compareOp .NotEq) kNe:=by
  intro pins s σ H0 H A x y v u Q r1 r2 r I m g0 rx ry q1 q2 e hq
  unfold kNe at e
  split at e
  case isFalse=>cases e
  rename_i ok
  cases e
  have p1:=q1.full
  have p2:=q2.full
  by_cases s1:scD r1.d=true
  · obtain ⟨a1,a2⟩:=scal_D p1 p2 s1 ok
    exact op_ne pins s σ H x y v u Q I rx ry ⟨a1,by rw [a2]; exact hq _ H (Same.refl H) (.bl _)⟩
  · generalize r1.d=d1 at *
    generalize r2.d=d2 at *
    have hu0:X.A.units < cLine:=by omega
    cases p1 with
    | @tup xs p vs h1 h2 =>
      cases p2 with
      | @tup ys p' ws h1' h2' =>
        cases rx; cases ry
        obtain ⟨its,w1,w2,_⟩:=I.tuple h1
        obtain ⟨its',w1',w2',_⟩:=I.tuple h1'
        have l1:its.toArray.size=xs.length:=by have:=w1.length; have:=h2.length; simp; omega
        have l2:its'.toArray.size=ys.length:=by have:=w1'.length; have:=h2'.length; simp; omega
        have k:=SeqAt.RcNeAt.tuples (A:=X.A) w2 w2' hu0 (seqAts I (n:=5) (by omega) (by simpa [eqOk] using ok) h2 h2' w1 w1')
        rw [l1,l2,all_eAtT] at k
        exact k _ _ _ _ ⟨.bl _,H,I,rfl,hq _ H (Same.refl H) (.bl _)⟩
      | _=>simp_all [eqOk]
    | @lst xs p vs h1 h2 =>
      cases p2 with
      | @lst ys p' ws h1' h2' =>
        cases rx; cases ry
        obtain ⟨its,w1,w2,_⟩:=I.list h1
        obtain ⟨its',w1',w2',_⟩:=I.list h1'
        have l1:its.toArray.size=xs.length:=by have:=w1.length; have:=h2.length; simp; omega
        have l2:its'.toArray.size=ys.length:=by have:=w1'.length; have:=h2'.length; simp; omega
        by_cases hl:xs.length=ys.length
        · have k:=SeqAt.RcNeAt.lists (A:=X.A) (PlainL.isL w2) (PlainL.isL w2') (by rw [l1,l2]; exact hl) hu0 (seqAts I (n:=5) (by omega) (by simpa [eqOk] using ok) h2 h2' w1 w1')
          rw [l1,all_eAt hl] at k
          exact k _ _ _ _ ⟨.bl _,H,I,rfl,hq _ H (Same.refl H) (.bl _)⟩
        · have ee:eqD (.lst xs) (.lst ys)=false:=eqD_false.mpr fun z=>hl (by injection z with z; rw [z])
          rw [ee] at hq
          exact SeqAt.RcNeAt.lists_lengths (A:=X.A) (PlainL.isL w2) (PlainL.isL w2') (by rw [l1,l2]; simpa using hl) hu0 _ _ _ _ ⟨.bl _,H,I,rfl,hq _ H (Same.refl H) (.bl _)⟩
      | _=>simp_all [eqOk]
    | dct=>exact absurd ok (by cases d2 <;> simp [eqOk])
    | pdc=>exact absurd ok (by cases d2 <;> simp [eqOk])
    | _=>simp_all [scD]
def tyD:D→String
  | .non => "NoneType"
  | .bl _ => "bool"
  | .int _ => "int"
  | .str _ => "str"
  | .tup _ => "tuple"
  | .lst _ => "list"
  | .dct _ _ => "dict"
  | .pdc _ => "dict"
def isiT (d:D) (T:String):Bool:=tyD d == T || (tyD d == "bool" && T == "int")
def dIsi (T:String) (f:DE):DE:=fun t=>(f t).bind fun r=>some (.cl (.bl (isiT r.d T)))
def IsiOk (K:PySem.W.Frag) (T:String):Prop := ∀ d:D,PySem.W.kitOne K (.type (tyD d)) (.type T)=some (isiT d T)
theorem ped_isi {T:String} {x:Str} {p p2:Pos} (ok:IsiOk X.K T) (ha:PE X a (dE X.K F fa)) (hg:Gl X "isinstance") (hm:X.mg "isinstance"=none) (hgT:Gl X x) (hmT:X.mg x=none) (hvT:bootBuiltins x=some (.type T)) (hnT:x ≠ "__name__":=by decide) (hdT:(x == ("__debug__":Str))=false:=by decide)
    (he:starEach (a :: [Expr.Name x p2]) X.env=(false,eval a X.env) :: starEach [.Name x p2] X.env:=by rfl) (he2:starEach [Expr.Name x p2] X.env=[(false,eval (.Name x p2) X.env)]:=by rfl) (hpl:(backTo pos (starEach [Expr.Name x p2] X.env)).any (·.1)=false:=by rfl) :
    PE X (.Call (.Name "isinstance" p) [a, .Name x p2] [] pos) (dE X.K F (dIsi T fa)):=by
  have rule:CallR X (.builtin "isinstance") (fun xs H Q => ∃ v d,xs=[v, .ty T]∧Rep X.K H d v∧Q (.bl (isiT d T)) H):=by
    intro pins s σ H xs us Q I r h
    obtain ⟨v,d,rfl,rp,hq⟩:=h
    obtain ⟨u,w',rfl,r1,r2⟩:=vals2 r
    cases (show w'=Value.type T from r2)
    have fin:∀ tk,EP X pins σ Q (.bool (isiT d T)) { s with toks:=tk }:=fun tk=>⟨.bl _,H,I.tok tk,rfl,hq⟩
    have e:=ok d
    cases rp with
    | non=>cases (show u=Value.none from r1); exact PySem.W.kia_one PySem.W.kitx_none I.kIn True.intro e (fun z=>nomatch z) fin
    | bl y=>cases (show u=Value.bool y from r1); exact PySem.W.kia_one PySem.W.kitx_bool I.kIn True.intro e (fun z=>nomatch z) fin
    | int i=>obtain ⟨t,q⟩:=(show ∃ t,u=Value.int i t from r1); cases q; exact PySem.W.kia_one PySem.W.kitx_int I.kIn True.intro e (fun z=>nomatch z) fin
    | str y=>obtain ⟨t,q⟩:=(show ∃ t,u=Value.str y t from r1); cases q; exact PySem.W.kia_one PySem.W.kitx_str I.kIn True.intro e (fun z=>nomatch z) fin
    | @tup _ p _ h1 h2 =>
      cases (show u=Value.ref p from r1)
      obtain ⟨its,_,⟨o,e1,c1,_⟩,_⟩:=I.tuple h1
      exact PySem.W.kia_one PySem.W.kitx_tuple I.kIn ⟨o,e1,c1⟩ e (fun z=>nomatch z) fin
    | @lst _ p _ h1 h2 =>
      cases (show u=Value.ref p from r1)
      obtain ⟨its,_,⟨o,n,e1,c1,_⟩,_⟩:=I.list h1
      exact PySem.W.kia_one PySem.W.kitx_list I.kIn ⟨o,e1,c1⟩ e (fun z=>nomatch z) fin
    | @dct _ _ p _ _ h1 h2 =>
      cases (show u=Value.ref p from r1)
      exact PySem.W.kia_one PySem.W.kitx_dict I.kIn (dct_cls I h1) e (fun z=>nomatch z) fin
    | @pdc _ p h1 =>
      cases (show u=Value.ref p from r1)
      exact PySem.W.kia_one PySem.W.kitx_dict I.kIn (pdc_cls I h1) e (fun z=>nomatch z) fin
  refine PE.imp (pe_callB rule hg hm boot_isinstance (pa_cons ha (pa_cons (pe_bltn (v := .ty T) hgT hmT hvT rfl hnT hdT) pa_nil he2) he) (by decide) (by decide) he hpl) ?_
  rintro σ H Q ⟨A,t,r,R,e,h⟩
  unfold dIsi at e
  cases e1:fa t with
  | none=>rw [e1] at e; cases e
  | some r1 =>
    rw [e1] at e
    cases e
    exact ⟨A,t,r1,R,e1,fun v H' gs q=>⟨v,r1.d,rfl,q.full,h _ H' gs (.bl _)⟩⟩
end
def startD (N:List Str) (ds:List D):Th:=ds.map Sl.val ++ List.replicate (N.length - ds.length) Sl.no
theorem RSl.no_all {K:PySem.W.Frag} {H0 H:Hp}:∀ n,RSl K H0 H (List.replicate n Sl.no) (List.replicate n none) []
  | 0 => .nil
  | n + 1 => .no (RSl.no_all n)
theorem RSl.start {K:PySem.W.Frag} {H0 H:Hp} {t:Th} {σ:L2.St} (r0:RSl K H0 H t σ []):∀ {ds:List D} {vs:List V},Reps K H0 ds vs→RSl K H0 H (ds.map Sl.val ++ t) (vs.map some ++ σ) []
  | _,_, .nil=>r0
  | _,_, .cons h r => .val h (RSl.start r0 r)
def outEv:Out→Option Ev
  | .rt r=>some r
  | .nx _=>some (.cl .non)
  | _=>none
theorem fun_ok {P:Program} {w:World} {K:PySem.W.Frag} {mg:Str→Option Value} {base:BHeap} {x qual:Str} {st:Stmt} {f:Addr} {fd:FuncData} {N ps:List Str} {k:Nat} {G:List D→Option Ev} (Fn:L2.Fun K x qual st f fd) (S:FnScope N ps (defScope st))
    (hlen:∀ ds r,G ds=some r→ds.length=ps.length) (g:DS) (hG:∀ ds r,G ds=some r→∃ o,g (startD N ds)=some o∧outEv o=some r)
    (hbody:∀ (cdv:Value) (A:Around) (outer:List Env) (s:Shared) (H:Hp) (E:XK) (F:List Addr),Room k (A.deeper (envOfC qual (defScope st) s.heap.objs.size f cdv)) →
      PSs (cxOf CX0 P w K mg base N qual (defScope st) f cdv A outer s H E).nox (defBody st) (dS K F g)):FnOk P w K mg base CX0 (k + 1) f fd ps (spD K G):=by
  refine Fn.ok S (fun vs H Q E h=>?_) (fun cdv A outer s H vs Q E hr h=>?_)
  · obtain ⟨Fo,ds,r,_,hr,hg,_⟩:=h
    rw [hr.length]; exact hlen ds r hg
  · obtain ⟨Fo,ds,r,hl,hr',hg,cont⟩:=h
    obtain ⟨o,ho,hoe⟩:=hG ds r hg
    refine ⟨_,hbody cdv A outer s H E Fo hr,dS_mk (A:=[]) (t:=startD N ds) ⟨hl,List.nodup_nil,fun p hp=>(by cases hp),?_⟩ ho ?_⟩
    · unfold startD L2.start
      rw [hr'.length]
      exact RSl.start (RSl.no_all _) hr'
    · have sm:∀ {A' H'},Gr [] H A' H'→Same H H':=fun g b o q=>g.kp b o (by simp) q
      cases o with
      | nx t' =>
        cases hoe
        exact fun σ' H' A' g' R'=>cont .non H' (sm g') .non
      | bk t'=>cases hoe
      | ct t'=>cases hoe
      | rt r' =>
        cases hoe
        intro v H' A' g' q
        refine cont v H' (sm g') ?_
        cases r with
        | cl d=>exact q
        | tm d=>exact q
        | nw xs =>
          obtain ⟨p,vs',rfl,h1,h2,h3,h4⟩:=q
          rcases h1 with h1 | h1
          · cases h1
          · exact ⟨p,vs',rfl,h1,h3,h4⟩
        | dn d =>
          obtain ⟨B,h1,h2,h3⟩:=q
          exact ⟨B,h1,fun b hb=>by rcases (h2 b hb).1 with z | z; cases z; exact z,h3⟩
end DL
namespace DL
open PySem PySem.Spec PyProof.Rows L2
structure Cal (P:Program) (w:World) (K:PySem.W.Frag) (mg:Str→Option Value) (base:BHeap) (x:Str) (k:Nat) (G:List D→Option Ev):Prop where
  ex:∃ (a:Addr) (fd:FuncData) (ps:List Str),mg x=some (.ref a)∧PySem.W.keepIn K (.ref a)=true∧L2.Binds K fd ps []∧FnOk P w K mg base CX0 k a fd ps (spD K G)
section
variable {X:Cx} {F:List Addr} {a b c:Expr} {es:List Expr} {fa fb fc:DE} {ga:DA} {pos:Pos}
theorem ped_callC {k:Nat} {G:List D→Option Ev} {x:Str} {p:Pos} (c:Cal X.prog X.w X.K X.mg X.base x k G) (hr:Room k X.A) (ha:PA X (a :: es) (dA X.K F ga)) (hg:Gl X x:=by rfl) (hdb:(x == ("__debug__":Str))=false:=by decide)
    (he:starEach (a :: es) X.env=(false,eval a X.env) :: starEach es X.env:=by rfl) (hpl:(backTo pos (starEach es X.env)).any (·.1)=false:=by rfl):PE X (.Call (.Name x p) (a :: es) [] pos) (dE X.K F (dT1 (kCall G) ga)):=by
  obtain ⟨f,fd,ps,h1,h2,h3,h4⟩:=c.ex
  exact ped_call h4 hr hg h1 h2 h3 ha hdb he hpl
end
structure Df (K:PySem.W.Frag) (mg:Str→Option Value) (x:Str) (st:Stmt) (ps:List Str) (a:Addr) (fd:FuncData):Prop where
  fn:L2.Fun K x x st a fd
  mgx:mg x=some (.ref a)
  bd:L2.Binds K fd ps []
theorem Df.cal {P:Program} {w:World} {K:PySem.W.Frag} {mg:Str→Option Value} {base:BHeap} {x:Str} {st:Stmt} {ps:List Str} {a:Addr} {fd:FuncData} {k:Nat} {G:List D→Option Ev} (d:Df K mg x st ps a fd) (h:FnOk P w K mg base CX0 k a fd ps (spD K G)):Cal P w K mg base x k G :=
  ⟨a,fd,ps,d.mgx,d.fn.kp,d.bd,h⟩
theorem isi_int {K:PySem.W.Frag}:IsiOk K "int":=fun d=>by cases d <;> rfl
theorem isi_bool {K:PySem.W.Frag}:IsiOk K "bool":=fun d=>by cases d <;> rfl
theorem bt_int:bootBuiltins "int"=some (.type "int"):=by decide +kernel
theorem bt_bool:bootBuiltins "bool"=some (.type "bool"):=by decide +kernel
theorem bt_list:bootBuiltins "list"=some (.type "list"):=by decide +kernel
end DL
namespace L2
open PySem PySem.Spec PyProof.Rows
section
variable {X:Cx} {pins:List (Addr × Obj)} {σ:L2.St} {H:Hp} {s:Shared} {h':Heap}
theorem Inv.turnedNew {t':Nat} {fp:List Addr} {a:Addr} {o:HO} (I:Inv X pins σ H s) (k:∀ b u,b ∉ fp→s.heap.get? b=some u→h'.get? b=some u) (hf:∀ b ∈ fp,FpOk X pins H b) (hp:s.heap.objs.size ≤ a)
    (new:ObjOk X.prog X.w (upd H a o) h' a o):Inv X pins σ (upd H a o) { s with heap:=h',toks:=t' }:=by
  have ha:H a=none:=I.hok.fresh hp
  have sm:∀ b u,H b=some u→upd H a o b=some u:=fun b u e=>by rw [upd_ne (fun z=>by rw [z,ha] at e; cases e)]; exact e
  have nfp:∀ b u,H b=some u→b ∉ fp:=fun b u e z=>by rw [(hf b z).1] at e; cases e
  refine I.step (g':=s.gens) (d':=s.drawn) (ch:=fp) (fun b hb=>?_) (fun b u _ _ hc e _=>k b u hc e) (fun b u _ _ hc e _=>⟨u.slots,k b u hc e⟩) (fun b u _ e n=>?_)
    (fun b u hc e=>⟨u,k b u hc e⟩) (fun b xs e=>sm b _ e) (fun b q u e=>sm b _ e) (fun b ps e=>sm b _ e) (fun m hm=>?_) (fun b u e=>?_) I.bare
  · obtain ⟨f0,f1,f2,f3,f4,f5⟩:=hf b hb
    exact ⟨f3,f1,f4,f5⟩
  · rw [upd_ne (Nat.ne_of_lt (Nat.lt_of_lt_of_le (Heap.lt_size e) hp))]; exact n
  · obtain ⟨q,es,ep,ho,r⟩:=hm
    exact ⟨q,es,ep,k _ q (fun z=>(hf _ z).2.1 rfl) ho,r⟩
  · by_cases z:b=a
    · subst z
      rw [upd_same] at e
      cases e
      exact new
    · rw [upd_ne z] at e
      refine (I.hok b u e).stay (fun c v hc q=>k c v ?_ q) (fun c q=>sm c _ q) (fun c xs q=>sm c _ q) fun c o u q=>sm c _ q
      rcases hc with w | w
      · rw [w]; exact nfp b u e
      · exact nfp c _ w
theorem Inv.turnedL {t':Nat} {fp:List Addr} (I:Inv X pins σ H s) (k:∀ b u,b ∉ fp→s.heap.get? b=some u→h'.get? b=some u) (hf:∀ b ∈ fp,FpOk X pins H b):Inv X pins σ H { s with heap:=h',toks:=t' }:=by
  have nfp:∀ b u,H b=some u→b ∉ fp:=fun b u e z=>by rw [(hf b z).1] at e; cases e
  refine I.step (g':=s.gens) (d':=s.drawn) (ch:=fp) (fun b hb=>?_) (fun b u _ _ hc e _=>k b u hc e) (fun b u _ _ hc e _=>⟨u.slots,k b u hc e⟩) (fun b u _ e n=>n)
    (fun b u hc e=>⟨u,k b u hc e⟩) (fun b xs e=>e) (fun b q u e=>e) (fun b ps e=>e) (fun m hm=>?_) (fun b u e=>?_) I.bare
  · obtain ⟨f0,f1,f2,f3,f4,f5⟩:=hf b hb
    exact ⟨f3,f1,f4,f5⟩
  · obtain ⟨q,es,ep,ho,r⟩:=hm
    exact ⟨q,es,ep,k _ q (fun z=>(hf _ z).2.1 rfl) ho,r⟩
  · refine (I.hok b u e).stay (fun c v hc q=>k c v ?_ q) (fun c q=>q) (fun c xs q=>q) fun c o u q=>q
    rcases hc with w | w
    · rw [w]; exact nfp b u e
    · exact nfp c _ w
end
def Ite (K:PySem.W.Frag) (a:Addr):It :=
  ⟨fun i H => ∃ xs x,SqL K H a xs∧xs[i]?=some x,fun i H x H' => ∃ p v,H p=none∧x = .ref p∧H'=upd H p (.tup [.int i,v])∧∀ xs,SqL K H a xs→xs[i]?=some v,fun i H => ∃ xs,SqL K H a xs∧xs.length ≤ i⟩
def EnumAt (e it a:Addr) (i:Nat) (h:Heap):Prop:=(∃ old,IsEnum h e it (i:Int) old)∧h.IsListIter it a i∧e ≠ it
theorem turn_enum {P:Program} {w:World} {K:PySem.W.Frag} {elts:List Expr} {k:Nat} {pos:Pos} (a e it:Addr):Turn P w K (.Tuple elts k pos) (Ite K a) [e,it] e (EnumAt e it a) where
  mem:=by simp
  obj:=fun i h st b hb=>by
    obtain ⟨⟨old,h1⟩,h2,_⟩:=st
    rcases (by simpa using hb:b=e ∨ b=it) with rfl | rfl
    · exact ⟨_,h1,fun v z=>by cases z⟩
    · obtain ⟨o,e1,c,d⟩:=h2
      exact ⟨o,e1,fun v z=>by rw [d] at z; cases z⟩
  keep:=fun i h h' st kk=>by
    obtain ⟨⟨old,h1⟩,h2,ne⟩:=st
    exact ⟨⟨old,kk e (by simp) _ h1⟩,h2.at fun o q=>kk it (by simp) o q,ne⟩
  item:=by
    intro X hP hw hK hc i pins s σ H E I hf st hg
    subst hP hw hK
    obtain ⟨xs,x,hq,hx⟩:=hg
    obtain ⟨its,rv,p,hz⟩:=I.list hq
    obtain ⟨u,hu,ru⟩:=rv.get hx
    obtain ⟨⟨old,h1⟩,h2,ne⟩:=st
    refine wpAny_pyNext_enum_item h1 h2 p.isList (x:=u) (by simpa using hu) ne fun h1' heo hit1 ht1 hz1 hk1=>?_
    refine ⟨_,rfl,wpAny_letOwnedTupleGo_enum heo fun h2' he2 hs2=>?_⟩
    replace hs2:Heap.SameBut e h1' h2':=hs2
    have es:e < s.heap.objs.size:=Heap.lt_size h1
    have kp:∀ b o,b ∉ [e,it]→s.heap.get? b=some o→h2'.get? b=some o:=fun b o nb q=>by
      have n1:b ≠ e:=fun z=>nb (by simp [z])
      have n2:b ≠ it:=fun z=>nb (by simp [z])
      exact (hs2.2 b n1).trans (hk1 b o n1 n2 q)
    have ht2:h2'.get? s.heap.objs.size=some { cls := .type "tuple",data := .seq #[.int i s.toks,u] }:=(hs2.2 _ (Nat.ne_of_gt es)).trans ht1
    have I2:Inv X pins σ (upd H s.heap.objs.size (.tup [.int i,x])) { s with heap:=h2',toks:=s.toks + 1 }:=I.turnedNew (t':=s.toks + 1) kp hf (Nat.le_refl _)
      ⟨by show 2 ≤ sizeLine; decide,[.int i s.toks,u], .cons ⟨_,rfl⟩ (.cons ru .nil),⟨_,ht2,rfl,_,rfl⟩⟩
    refine ⟨.ref s.heap.objs.size,_,I2,rfl,⟨s.heap.objs.size,x,I.hok.fresh (Nat.le_refl _),rfl,rfl,fun ys hy=>by rw [I.list_inj hy hq]; exact hx⟩,⟨⟨u,?_⟩,?_,ne⟩,fun b hb=>?_⟩
    · exact he2
    · exact hit1.extBut hs2.extBut (Ne.symm ne)
    · rw [upd_ne (fun z=>?_)]
      · exact (hf b hb).1
      · rcases (by simpa using hb:b=e ∨ b=it) with w' | w'
        · rw [← z,w'] at es; exact absurd es (Nat.lt_irrefl _)
        · obtain ⟨o,e1,_⟩:=h2
          have:=Heap.lt_size e1
          rw [← w',z] at this; exact absurd this (Nat.lt_irrefl _)
  done:=by
    intro X hP hw hK hc i pins s σ H E I hf st hg
    subst hP hw hK
    obtain ⟨xs,hq,hx⟩:=hg
    obtain ⟨its,rv,p,hz⟩:=I.list hq
    obtain ⟨⟨old,h1⟩,h2,ne⟩:=st
    have hl:=rv.length
    refine wpAny_pyNext_enum_end (I.ok.hd hc) h1 h2 p.isList (by simp; omega) fun h' eb=>⟨rfl,I.turnedL (t':=s.toks) (fun b o nb q=>eb b o (fun z=>nb (by simp [z])) q) hf⟩
  self:=fun _ _ _ _ _ st h=>by
    obtain ⟨⟨old,h1⟩,_,_⟩:=st
    exact wpAny_pyIter_enum h1 h
def iEnum (K:PySem.W.Frag) (tl:TE):TI:=fun σ H R=>tl σ H fun x H1 => ∃ a,x = .ref a∧(∃ xs,SqL K H1 a xs)∧R (Ite K a) H1
theorem bt_enum:bootBuiltins "enumerate"=some (.type "enumerate"):=by decide +kernel
theorem pi_enum {X:Cx} {l:Expr} {tl:TE} {elts:List Expr} {k:Nat} {tp p pos:Pos} (hg:Gl X "enumerate") (hm:X.mg "enumerate"=none) (hl:PE X l tl) (hs:starEach [l] X.env=[(false,eval l X.env)]:=by rfl) :
    PI X (.Tuple elts k tp) (.Call (.Name "enumerate" p) [l] [] pos) (iEnum X.K tl):=by
  intro pins s σ H R I h
  refine Call_ (ld_blt I hg hm bt_enum (PyProof.Rows.callWith_type1 (thn ((pa_cons hl pa_nil hs) pos pins s σ H (fun vs H1=>match vs with | [x] => ∃ a,x = .ref a∧(∃ xs,SqL X.K H1 a xs)∧R (Ite X.K a) H1 | _=>False) I h) fun us s1 ⟨vs,H1,I1,r1,q1⟩=>?_) hs rfl))
  cases r1 with
  | nil=>exact q1.elim
  | @cons x u xr ur ru rr =>
   cases rr with
   | cons _ _=>exact q1.elim
   | nil =>
    obtain ⟨a,rfl,⟨xs,hq⟩,q⟩:=q1
    cases ru
    obtain ⟨its,rv,p,hz⟩:=I1.list hq
    refine call_enumerate_list p.isList fun h' he hit hz' hk=>?_
    have I2:Inv X pins σ H1 { s1 with heap:=h' }:=I1.kept (t':=s1.toks) hk
    refine wpAny_pyIter_enum he ?_
    refine ⟨s1.heap.objs.size + 1,[s1.heap.objs.size + 1,s1.heap.objs.size],EnumAt (s1.heap.objs.size + 1) s1.heap.objs.size a,Ite X.K a,H1,rfl,I2,turn_enum a _ _,⟨⟨_,he⟩,hit,Nat.succ_ne_self _⟩,fun b hb=>?_,q⟩
    rcases (by simpa using hb:b=s1.heap.objs.size + 1 ∨ b=s1.heap.objs.size) with rfl | rfl
    · exact I1.fpOk (Nat.le_succ _) (I1.hok.fresh (Nat.le_succ _))
    · exact I1.fpOk (Nat.le_refl _) (I1.hok.fresh (Nat.le_refl _))
end L2
namespace DL
open PySem PySem.Spec PyProof.Rows L2
def enumD (i:Nat):List D→List D
  | []=>[]
  | d :: ds => .tup [.int i,d] :: enumD (i + 1) ds
theorem enumD_len:∀ (i:Nat) (ds:List D),(enumD i ds).length=ds.length
  | _,[]=>rfl
  | i,d :: ds=>by simp [enumD,enumD_len (i + 1) ds]
theorem enumD_get:∀ (i:Nat) (ds:List D) (j:Nat) (d:D),ds[j]?=some d→(enumD i ds)[j]?=some (.tup [.int ((i + j:Nat):Int),d])
  | _,[],j,d,h=>by simp at h
  | i,e :: ds,0,d,h=>by simp at h; subst h; simp [enumD]
  | i,e :: ds,j + 1,d,h=>by
    have:=enumD_get (i + 1) ds j d (by simpa using h)
    simp only [enumD,List.getElem?_cons_succ,this]
    rw [show i + 1 + j=i + (j + 1) by omega]
end DL
namespace L2
open PySem PySem.Spec PyProof.Rows
def clOf (cells:List (Str × Addr)):List (Str × NameKind)→List (Str × Addr)→List (Str × Addr)
  | [],acc=>acc
  | (n,k) :: r,acc=>if k == .free then clOf cells r ((n,(cells.lookup n).getD 0) :: acc) else clOf cells r acc
theorem clOf_lookup {cells:List (Str × Addr)}:∀ {names:List (Str × NameKind)} {acc:List (Str × Addr)} {x:Str} {c:Addr},(∀ y ∈ names,y.2 = .free→∃ c,cells.lookup y.1=some c)→(clOf cells names acc).lookup x=some c→acc.lookup x=some c ∨ cells.lookup x=some c
  | [],acc,x,c,_,h => .inl h
  | (n,k) :: r,acc,x,c,hy,h=>by
    unfold clOf at h
    have hr:∀ y ∈ r,y.2 = .free→∃ c,cells.lookup y.1=some c:=fun y h1=>hy y (List.mem_cons_of_mem _ h1)
    split at h
    · rename_i hk
      rcases clOf_lookup hr h with z | z
      · rw [List.lookup_cons] at z
        split at z
        · rename_i e
          have e:x=n:=by simpa using e
          obtain ⟨c',hc'⟩:=hy (n,k) (List.mem_cons_self ..) (by simpa using hk)
          simp only [hc',Option.getD_some] at z
          cases z
          rw [e]; exact .inr hc'
        · exact .inl z
      · exact .inr z
    · exact clOf_lookup hr h
theorem clOf_mono {cells:List (Str × Addr)}:∀ {names:List (Str × NameKind)} {acc:List (Str × Addr)} {x:Str},(∃ c,acc.lookup x=some c)→∃ c,(clOf cells names acc).lookup x=some c
  | [],acc,x,h=>h
  | (n,k) :: r,acc,x,h=>by
    unfold clOf
    split
    · refine clOf_mono ?_
      rw [List.lookup_cons]
      split
      · exact ⟨_,rfl⟩
      · exact h
    · exact clOf_mono h
theorem clOf_has {cells:List (Str × Addr)}:∀ {names:List (Str × NameKind)} {acc:List (Str × Addr)} {x:Str},(x,NameKind.free) ∈ names→∃ c,(clOf cells names acc).lookup x=some c
  | (n,k) :: r,acc,x,h=>by
    unfold clOf
    rcases List.mem_cons.mp h with z | z
    · cases z
      rw [if_pos (by rfl)]
      refine clOf_mono ⟨(cells.lookup n).getD 0,?_⟩
      simp [List.lookup_cons]
    · split
      · exact clOf_has z
      · exact clOf_has z
theorem closure_eq {scope:Scope} {env:Env} (h:∀ y ∈ scope.names,y.2 = .free→∃ c,env.cells.lookup y.1=some c):closureFor scope env=pure (clOf env.cells scope.names []):=by
  unfold closureFor
  have key:∀ (names:List (Str × NameKind)) (acc:List (Str × Addr)),(∀ y ∈ names,y.2 = .free→∃ c,env.cells.lookup y.1=some c) →
      (forIn names acc fun (x:Str × NameKind) (cs:List (Str × Addr))=>(do
        if x.2 == .free then
          let a ← cellOf env x.1
          pure (ForInStep.yield ((x.1,a) :: cs))
        else pure (ForInStep.yield cs):Sem (ForInStep (List (Str × Addr)))))=pure (clOf env.cells names acc):=by
    intro names
    induction names with
    | nil=>intro acc _; rfl
    | cons y r ih =>
      intro acc hy
      obtain ⟨n,k⟩:=y
      have hr:∀ y ∈ r,y.2 = .free→∃ c,env.cells.lookup y.1=some c:=fun y h1=>hy y (List.mem_cons_of_mem _ h1)
      rw [List.forIn_cons]
      unfold clOf
      by_cases hk:(k == NameKind.free)=true
      · obtain ⟨c,hc⟩:=hy (n,k) (List.mem_cons_self ..) (by simpa using hk)
        have hc':cellOf env n=pure c:=by unfold cellOf; rw [hc]
        simp only [hk,if_true,hc']
        rw [← ih _ hr]
        simp only [hc,Option.getD_some]
        rfl
      · have hk':(k == NameKind.free)=false:=by simpa using hk
        simp only [hk',Bool.false_eq_true,if_false]
        rw [← ih _ hr]
        rfl
  have:=key scope.names [] h
  simp only [bind_pure_comp] at this ⊢
  rw [this]
  rfl
theorem relabel_lookup {env:Env}:∀ {names:List (Str × NameKind)} {x:Str} {k':NameKind},(names.map fun (n,k)=>if (k == NameKind.free && env.scope.kind == .function && env.kindOf n == some .cell) then (n,NameKind.cell) else (n,k)).lookup x=some k' →
    ∃ k,(x,k) ∈ names∧(k'=k ∨ (k = .free∧k' = .cell))
  | [],x,k',h=>by simp at h
  | (n,k) :: r,x,k',h=>by
    rw [List.map_cons] at h
    by_cases hc:(k == NameKind.free && env.scope.kind == .function && env.kindOf n == some .cell)=true
    · simp only [hc,if_true,List.lookup_cons] at h
      split at h
      · rename_i e
        have e:x=n:=by simpa using e
        cases h
        simp only [Bool.and_eq_true,beq_iff_eq] at hc
        have hk:k = .free:=by simpa using hc.1.1
        exact ⟨k,by rw [e]; exact List.mem_cons_self .., .inr ⟨hk,rfl⟩⟩
      · obtain ⟨q,a,b⟩:=relabel_lookup h
        exact ⟨q,List.mem_cons_of_mem _ a,b⟩
    · have hc':(k == NameKind.free && env.scope.kind == .function && env.kindOf n == some .cell)=false:=by simpa using hc
      simp only [hc',Bool.false_eq_true,if_false,List.lookup_cons] at h
      split at h
      · rename_i e
        have e:x=n:=by simpa using e
        cases h
        exact ⟨_,by rw [e]; exact List.mem_cons_self .., .inl rfl⟩
      · obtain ⟨q,a,b⟩:=relabel_lookup h
        exact ⟨q,List.mem_cons_of_mem _ a,b⟩
theorem compLoop_any {prog:Program} {w:World} {A:Around} {R:Result→Shared→Prop} {s:Shared} {elt target iter:Expr} {ifs:List Expr} {scope:Scope} {pos:Pos} {it acc:Value} {env:Env} (I:Nat→Shared→Prop)
    (turn:∀ n s,I n s→wpAny (model prog w) A (pyNext it) (fun r s₁=>match r with
      | none=>R (.ok .next) s₁
      | some v=>wpAny (model prog w) A (letOwnedTupleGo target it v) (fun _ s₁'=>wpAny (model prog w) A (assign target env v) (fun _ s₂ =>
          wpAny (model prog w) A (forIn ifs true fun c r=>if r=true then do let ok ← isTrue c env (eval c env); pure (ForInStep.yield ok) else pure (ForInStep.yield r)) (fun ok s₃ =>
            if ok=true then wpAny (model prog w) A (eval elt env) (fun x s₄ =>
              wpAny (model prog w) A (call (.builtin "list.append") [acc,x]) (fun _ s₅ => ∃ m,m < n∧I m s₅) (fun _ _=>False) s₄) (fun _ _=>False) s₃
            else ∃ m,m < n∧I m s₃) (fun _ _=>False) s₂) (fun _ _=>False) s₁') (fun _ _=>False) s₁) (fun _ _=>False) s)
    (n:Nat) (h:I n s):codeAny (model prog w) A (.compLoop (.ListComp elt [⟨target,iter,ifs,0⟩] scope pos) 0 it acc env) R s:=by
  refine codeAny_loop rfl I (fun n s hI=>?_) n h
  show wpAny _ A ((compTurn (.ListComp elt [⟨target,iter,ifs,0⟩] scope pos) 0 it acc env).onRaise (fun x=>do noteFrame x env; theTreesLotGoes x)) _ _ s
  refine wpAny_noted ?_
  rw [compTurn_list]
  refine wpAny_bind (wpAny_standAt (wpAny_bind (wpAny_mono (turn n s hI) (fun r s₁ h₁=>?_) fun _ _ h'=>h'.elim)))
  cases r with
  | none=>exact wpAny_pure h₁
  | some v =>
    refine wpAny_bind (wpAny_mono h₁ (fun _ s₁' h₁'=>?_) fun _ _ h'=>h'.elim)
    refine wpAny_bind (wpAny_mono h₁' (fun _ s₂ h₂=>wpAny_bind (wpAny_mono h₂ (fun ok s₃ h₃=>?_) fun _ _ h'=>h'.elim)) fun _ _ h'=>h'.elim)
    cases ok with
    | false=>exact wpAny_pure ⟨rfl,h₃⟩
    | true =>
      exact wpAny_bind (wpAny_bind (wpAny_mono h₃ (fun x s₄ h₄=>wpAny_bind (wpAny_mono h₄ (fun _ s₅ h₅=>wpAny_pure (wpAny_pure ⟨rfl,h₅⟩)) fun _ _ h'=>h'.elim)) fun _ _ h'=>h'.elim))
theorem cf_bound {x:Str} {c:Addr}:∀ {names:List (Str × NameKind)} {n:Nat} {acc:List (Str × Addr)},(cellsFrom n names acc).lookup x=some c→acc.lookup x=some c ∨ n ≤ c
  | [],n,acc,h => .inl h
  | (y,k) :: r,n,acc,h=>by
    unfold cellsFrom at h
    split at h
    · rcases cf_bound h with z | z
      · rw [List.lookup_cons] at z
        split at z
        · cases z; exact .inr (Nat.le_refl _)
        · exact .inl z
      · exact .inr (by omega)
    · exact cf_bound h
theorem cf_has {x:Str}:∀ {names:List (Str × NameKind)} {n:Nat} {acc:List (Str × Addr)},(∃ c,acc.lookup x=some c)→∃ c,(cellsFrom n names acc).lookup x=some c
  | [],n,acc,h=>h
  | (y,k) :: r,n,acc,h=>by
    unfold cellsFrom
    split
    · refine cf_has ?_
      rw [List.lookup_cons]
      split
      · exact ⟨_,rfl⟩
      · exact h
    · exact cf_has h
theorem cf_some {x:Str}:∀ {names:List (Str × NameKind)} {n:Nat} {acc:List (Str × Addr)},(x,NameKind.cell) ∈ names→∃ c,(cellsFrom n names acc).lookup x=some c
  | (y,k) :: r,n,acc,h=>by
    unfold cellsFrom
    rcases List.mem_cons.mp h with z | z
    · cases z
      rw [if_pos (by rfl)]
      exact cf_has ⟨n,by simp [List.lookup_cons]⟩
    · split
      · exact cf_some z
      · exact cf_some z
theorem cf_ge {x:Str} {c:Addr} {lo:Nat}:∀ {names:List (Str × NameKind)} {n:Nat} {acc:List (Str × Addr)},lo ≤ n→(∀ c,acc.lookup x=some c→lo ≤ c)→(cellsFrom n names acc).lookup x=some c→lo ≤ c
  | [],n,acc,_,ha,h=>ha c h
  | (y,k) :: r,n,acc,hn,ha,h=>by
    unfold cellsFrom at h
    split at h
    · refine cf_ge (n:=n + 1) (by omega) (fun c' h'=>?_) h
      rw [List.lookup_cons] at h'
      split at h'
      · cases h'; exact hn
      · exact ha c' h'
    · exact cf_ge hn ha h
theorem cf_new {x:Str} {c:Addr}:∀ {names:List (Str × NameKind)} {n:Nat} {acc:List (Str × Addr)},(x,NameKind.cell) ∈ names→(cellsFrom n names acc).lookup x=some c→n ≤ c
  | (y,k) :: r,n,acc,hm,h=>by
    unfold cellsFrom at h
    rcases List.mem_cons.mp hm with z | z
    · cases z
      rw [if_pos (by rfl)] at h
      refine cf_ge (lo:=n) (n:=n + 1) (by omega) (fun c' h'=>?_) h
      rw [List.lookup_cons,beq_self_eq_true] at h'
      cases h'
      exact Nat.le_refl _
    · split at h
      · have:=cf_new z h; omega
      · exact cf_new z h
theorem cf_old {x:Str}:∀ {names:List (Str × NameKind)} {n:Nat} {acc:List (Str × Addr)},(x,NameKind.cell) ∉ names→(cellsFrom n names acc).lookup x=acc.lookup x
  | [],n,acc,_=>rfl
  | (y,k) :: r,n,acc,h=>by
    have hr:(x,NameKind.cell) ∉ r:=fun z=>h (List.mem_cons_of_mem _ z)
    unfold cellsFrom
    split
    · rename_i hk
      rw [cf_old hr,List.lookup_cons]
      split
      · rename_i e
        exact absurd (List.mem_cons.mpr (.inl (by rw [show x=y by simpa using e,show k=NameKind.cell by simpa using hk]))) h
      · rfl
    · exact cf_old hr
theorem cf_inj:∀ {names:List (Str × NameKind)} {n:Nat} {acc:List (Str × Addr)},(∀ x c,acc.lookup x=some c→c < n)→(∀ x y c,acc.lookup x=some c→acc.lookup y=some c→x=y) →
    ∀ x y c,(cellsFrom n names acc).lookup x=some c→(cellsFrom n names acc).lookup y=some c→x=y
  | [],n,acc,_,hi=>hi
  | (z,k) :: r,n,acc,hb,hi=>by
    unfold cellsFrom
    split
    · refine cf_inj (n:=n + 1) (fun x c h=>?_) (fun x y c h1 h2=>?_)
      · rw [List.lookup_cons] at h
        split at h
        · cases h; exact Nat.lt_succ_self _
        · exact Nat.lt_succ_of_lt (hb x c h)
      · rw [List.lookup_cons] at h1 h2
        split at h1
        · rename_i e1
          cases h1
          split at h2
          · rename_i e2; rw [show x=z by simpa using e1,show y=z by simpa using e2]
          · exact absurd (hb y _ h2) (Nat.lt_irrefl _)
        · split at h2
          · cases h2; exact absurd (hb x _ h1) (Nat.lt_irrefl _)
          · exact hi x y c h1 h2
    · exact cf_inj hb hi
theorem cf_cell {x:Str} {c:Addr}:∀ {names:List (Str × NameKind)} {h:Heap} {acc:List (Str × Addr)},(∀ c,acc.lookup x=some c→∃ v,h.IsCell c v)→(cellsFrom h.objs.size names acc).lookup x=some c→∃ v,(pushCells h names).IsCell c v
  | [],h,acc,ha,e=>ha c e
  | (y,k) :: r,h,acc,ha,e=>by
    unfold cellsFrom at e
    unfold pushCells
    split at e
    · rename_i hk
      rw [if_pos hk]
      rw [show h.objs.size + 1=(h.push { cls := .type "cell",data := .cell none }).objs.size from (Heap.size_push ..).symm] at e
      refine cf_cell (fun c' e'=>?_) e
      rw [List.lookup_cons] at e'
      split at e'
      · cases e'; exact ⟨none,_,Heap.get?_push_size _ rfl,rfl⟩
      · obtain ⟨v,z⟩:=ha c' e'
        exact ⟨v,z.keeps fun b o q=>Heap.get?_push_of_some _ q⟩
    · rename_i hk
      rw [if_neg hk]
      exact cf_cell ha e
theorem wpAny_newBlock {M:Model} {A:Around} {E:Value→Shared→Prop} {s:Shared} {scope:Scope} {globals:Addr} {cl:List (Str × Addr)} {qual:Str} {func:Option Addr} {code:Value} {env:Env} {builtins:Addr} {Q:Env→Shared→Prop}
    (hQ:∀ h',h'.Ns s.heap.objs.size (fun _=>none)→(∀ b o,s.heap.get? b=some o→h'.get? b=some o)→(∀ x c,(∀ c,cl.lookup x=some c→∃ v,s.heap.IsCell c v)→(cellsFrom (s.heap.objs.size + 1) scope.names cl).lookup x=some c→∃ v,h'.IsCell c v) →
      Q (newEnv scope s.heap.objs.size globals (cellsFrom (s.heap.objs.size + 1) scope.names cl) qual func code (some env) builtins) { s with heap:=h',toks:=s.toks }) :
    wpAny M A (newFunctionEnv scope globals cl [] qual func code (some env) builtins) Q E s:=by
  simp only [newFunctionEnv,Option.isSome_some,if_true]
  refine wpAny_bind (wpAny_alloc ?_)
  refine wpAny_bind (wpAny_layCells _ (fun name kind cells=>by cases hkc:kind == NameKind.cell <;> simp [hkc]) _ _ _ _ ?_)
  have sz:(s.heap.push { cls := .type "dict",data := .dict #[] }).objs.size=s.heap.objs.size + 1:=Heap.size_push ..
  rw [show ({ s with heap:=s.heap.push { cls := .type "dict",data := .dict #[] } }:Shared).heap.objs.size=s.heap.objs.size + 1 from sz]
  rw [List.forIn_nil]
  refine wpAny_bind (wpAny_pure (wpAny_pure ?_))
  refine hQ _ ((Heap.Ns.new s.heap (.type "dict")).keeps (pushCells_keeps _ _)) (fun b o e=>pushCells_keeps _ _ b o (Heap.get?_push_of_some _ e)) fun x c ha e=>?_
  rw [← sz] at e
  exact cf_cell (fun c' e'=>let ⟨v,z⟩:=ha c' e'; ⟨v,z.keeps fun b o q=>Heap.get?_push_of_some _ q⟩) e
abbrev blk (X:Cx) (N':List Str) (scope:Scope) (C:Addr) (s₃:Shared) (H₃:Hp) (fp:List Addr) (pins:List (Addr × Obj)):Cx :=
  { X with N:=N',s₀:=s₃,H₀:=H₃,env:=compEnvC scope (cellsFrom (C + 1) scope.names (clOf X.env.cells scope.names [])) C X.env,outer:=X.stack,stack:=X.stack,ex:=fp,fn:=fun x=>scope.names.lookup x == some .cell,calm:=true,pn:=X.pn ++ pins,xe:=fun _ _=>False }
structure CompSc (X:Cx) (scope:Scope):Prop where
  kind:scope.kind = .function
  free:∀ y ∈ scope.names,y.2 = .free→X.env.kindOf y.1=some .cell ∨ X.env.kindOf y.1=some .free
  names:∀ y ∈ scope.names,scope.names.lookup y.1=some y.2
section
variable {X:Cx} {pins:List (Addr × Obj)} {σ:L2.St} {H:Hp} {s:Shared} {scope:Scope} {N':List Str} {fp:List Addr}
theorem CompSc.frees (S:CompSc X scope) (ok:X.Ok):∀ y ∈ scope.names,y.2 = .free→∃ c,X.env.cells.lookup y.1=some c:=fun y hy hf=>ok.has y.1 (S.free y hy hf)
theorem CompSc.cells (S:CompSc X scope) (ok:X.Ok) {x:Str} {c:Addr} (h:(clOf X.env.cells scope.names []).lookup x=some c):X.env.cells.lookup x=some c:=by
  rcases clOf_lookup (S.frees ok) h with z | z
  · simp at z
  · exact z
theorem CompSc.nc (S:CompSc X scope) {x:Str} (h:(x,NameKind.free) ∈ scope.names):(x,NameKind.cell) ∉ scope.names:=fun z=>by
  have w1:=S.names _ h
  have w2:=S.names _ z
  rw [show (x,NameKind.cell).1=(x,NameKind.free).1 from rfl,w1] at w2
  cases w2
theorem CompSc.cls (S:CompSc X scope) (I:Inv X pins σ H s) {x:Str} {c:Addr} (h:(clOf X.env.cells scope.names []).lookup x=some c):c < s.heap.objs.size:=by
  obtain ⟨v,o,ho,_⟩:=I.cell x c (S.cells I.ok h)
  exact Heap.lt_size ho
theorem CompSc.old (S:CompSc X scope) (I:Inv X pins σ H s) {x:Str} {c:Addr} (h:(cellsFrom (s.heap.objs.size + 1) scope.names (clOf X.env.cells scope.names [])).lookup x=some c):X.env.cells.lookup x=some c ∨ s.heap.objs.size < c:=by
  rcases cf_bound h with z | z
  · exact .inl (S.cells I.ok z)
  · exact .inr z
theorem blk_ok (I:Inv X pins σ H s) (S:CompSc X scope) (hc:X.calm=true) (hf:∀ b ∈ fp,FpOk X pins H b) (hlt:∀ b ∈ fp,b < s.heap.objs.size):(blk X N' scope s.heap.objs.size s H fp pins).Ok where
  mod:=I.ok.mod
  kind:=S.kind
  glob:=I.ok.glob
  blt:=I.ok.blt
  above:=Nat.le_refl _
  inj:=cf_inj (fun x c h=>Nat.lt_succ_of_lt (S.cls I h)) fun x y c h1 h2=>I.ok.inj x y c (S.cells I.ok h1) (S.cells I.ok h2)
  has:=fun x hx=>by
    have hx:(relabel scope X.env).names.lookup x=some .cell ∨ (relabel scope X.env).names.lookup x=some .free:=hx
    have:(x,NameKind.free) ∈ scope.names ∨ (x,NameKind.cell) ∈ scope.names:=by
      rcases hx with hx | hx
      · obtain ⟨k,a,b⟩:=relabel_lookup hx
        rcases b with b | b
        · rw [← b] at a; exact .inr a
        · rw [b.1] at a; exact .inl a
      · obtain ⟨k,a,b⟩:=relabel_lookup hx
        rcases b with b | b
        · rw [← b] at a; exact .inl a
        · cases b.2
    rcases this with z | z
    · exact cf_has (clOf_has z)
    · exact cf_some z
  cab:=fun x c h e=>by
    have h:(scope.names.lookup x == some NameKind.cell)=true:=h
    have h:scope.names.lookup x=some .cell:=by simpa using h
    exact Nat.le_of_succ_le (cf_new (PySem.mem_of_lookup h) e)
  hd:=fun _=>I.ok.hd hc
  frames:=I.ok.frames
  stk := .inl rfl
  exf:=fun b hb=>⟨Nat.ne_of_lt (hlt b hb),fun x c h=>by
    rcases S.old I h with z | z
    · exact (hf b hb).2.2.2.2.1 x c z
    · exact Nat.ne_of_gt (Nat.lt_trans (hlt b hb) z)⟩
  bs:=fun b o e=>I.bs b o e
  bsz:=Nat.le_trans I.ok.bsz I.sz
  noex:=fun b o e hb=>by
    rcases (hf b hb).2.2.2.1 with z | z
    · exact I.ok.noex b o e z
    · exact absurd (Nat.lt_of_lt_of_le (Heap.lt_size e) (Nat.le_trans I.ok.bsz z)) (Nat.lt_irrefl _)
  exfs:=fun b hb z=>(List.mem_cons.mp (I.stkSub b z)).elim (hf b hb).2.1 (hf b hb).2.2.1
  funs:=I.stack
  frf:=I.stkFree
  tabs:=fun p hp=>I.base.tbls _ _ (I.ok.tabs p hp)
theorem blk_inv (I:Inv X pins σ H s) (S:CompSc X scope) (hc:X.calm=true) (hf:∀ b ∈ fp,FpOk X pins H b) (hlt:∀ b ∈ fp,b < s.heap.objs.size) {h1:Heap} {t1:Nat} {m:Str→Option Value} {σ':L2.St}
    (hns:h1.Ns s.heap.objs.size m) (hk:∀ b o,s.heap.get? b=some o→h1.get? b=some o) (hcl:∀ x c,(∀ c,(clOf X.env.cells scope.names []).lookup x=some c→∃ v,s.heap.IsCell c v)→(cellsFrom (s.heap.objs.size + 1) scope.names (clOf X.env.cells scope.names [])).lookup x=some c→∃ v,h1.IsCell c v) (hl:σ'.length=N'.length)
    (cap:∀ (i:Nat) (x:Str) (v:V),N'[i]?=some x→σ'[i]?=some (some v)→(x,NameKind.free) ∈ scope.names∧∃ j:Nat,X.N[j]?=some x∧σ[j]?=some (some v)) :
    Inv (blk X N' scope s.heap.objs.size s H fp pins) [] σ' H { s with heap:=h1,toks:=t1 } where
  ok:=blk_ok I S hc hf hlt
  os:=rfl
  bare:=I.bare
  base:=Un.kept hk
  loc:=⟨m,hns,fun i x v e1 e2 vs=>by
    obtain ⟨hfree,j,j1,j2⟩:=cap i x v e1 e2
    obtain ⟨m0,hn0,hl0⟩:=I.loc
    have vis:Vis X.env.scope x:=by
      rcases S.free _ hfree rfl with z | z
      · exact .inr (.inl z)
      · exact .inr (.inr z)
    obtain ⟨u,r,l⟩:=hl0 j x v j1 j2 vis
    refine ⟨u,r,?_⟩
    rcases l with ⟨k,_⟩ | ⟨k,c,e,z⟩
    · exfalso
      rcases S.free _ hfree rfl with q | q
      · rw [k] at q; cases q
      · rw [k] at q; cases q
    · obtain ⟨c',hc'⟩:=clOf_has (cells:=X.env.cells) (acc:=[]) hfree
      have e':=S.cells I.ok hc'
      rw [e] at e'; cases e'
      refine .inr ⟨?_,c,by rw [show (blk X N' scope s.heap.objs.size s H fp pins).env.cells.lookup x=_ from cf_old (S.nc hfree)]; exact hc',?_⟩
      · have vs:(relabel scope X.env).names.lookup x=some .local ∨ (relabel scope X.env).names.lookup x=some .cell ∨ (relabel scope X.env).names.lookup x=some .free:=vs
        rcases vs with q | q
        · obtain ⟨k2,a,b⟩:=relabel_lookup q
          rcases b with b | b
          · rw [← b] at a
            have w1:=S.names _ a
            have w2:=S.names _ hfree
            rw [show (x,NameKind.local).1=(x,NameKind.free).1 from rfl,w2] at w1
            cases w1
          · cases b.2
        · exact q
      · obtain ⟨o,ho,hd⟩:=z
        exact ⟨o,hk _ _ ho,hd⟩⟩
  cell:=fun x c h=>hcl x c (fun c' h'=>I.cell x c' (S.cells I.ok h')) h
  free:=I.hok.fresh (Nat.le_refl _)
  freeC:=fun x c h=>by
    rcases S.old I h with z | z
    · exact I.freeC x c z
    · exact I.hok.fresh (Nat.le_of_lt z)
  pin:=fun p hp=>by
    have hp:p ∈ (X.pn ++ pins) ++ []:=hp
    rw [List.append_nil] at hp
    obtain ⟨a,b,c,d,e⟩:=I.pin p hp
    exact ⟨hk _ _ a,b,Nat.ne_of_lt (Heap.lt_size a),fun z=>(List.mem_cons.mp (I.stkSub _ z)).elim c d,e⟩
  hok:=I.hok.kept hk
  len:=hl
theorem blk_back {H3 H':Hp} {s':Shared} {h'':Heap} {σ':L2.St} {C:Addr} {pins':List (Addr × Obj)} (I:Inv X pins σ H3 s) (hf:∀ b ∈ fp,FpOk X pins H3 b) (hC:C=s.heap.objs.size) (I':Inv (blk X N' scope C s H3 fp pins) pins' σ' H' s') (hb:Heap.SameBut C s'.heap h''):Inv X pins σ H' { s' with heap:=h'' }:=by
  subst hC
  have bs:Un (frs X.stack) fp H3 H' s.heap s'.heap:=I'.base
  have nC:∀ b o,s.heap.get? b=some o→b ≠ s.heap.objs.size:=fun b o e=>Nat.ne_of_lt (Heap.lt_size e)
  have tr:∀ b,b ≠ s.heap.objs.size→h''.get? b=s'.heap.get? b:=fun b n=>hb.2 b n
  have u:Un (frs X.stack) fp H3 H' s.heap h'' :=
    ⟨fun b o e n h1 h2=>(tr b (nC b o e)).trans (bs.keep b o e n h1 h2),fun b o e n h1 h2=>by obtain ⟨sl,q⟩:=bs.slot b o e n h1 h2; exact ⟨sl,(tr b (nC b o e)).trans q⟩,bs.free,
      fun b o e h1=>by obtain ⟨o',q⟩:=bs.there b o e h1; exact ⟨o',(tr b (nC b o e)).trans q⟩,bs.tups,bs.frzs,bs.tbls⟩
  have cf:H' s.heap.objs.size=none:=I'.free
  have hok:HOk X.prog X.w H' h'':=fun b o e=>by
    have nb:b ≠ s.heap.objs.size:=fun z=>by rw [z,cf] at e; cases e
    refine (I'.hok b o e).stay (fun c v hc q=>(tr c ?_).trans q) (fun _ q=>q) (fun _ _ q=>q) fun _ _ _ q=>q
    rcases hc with w | w
    · rw [w]; exact nb
    · exact fun z=>by rw [z,cf] at w; cases w
  obtain ⟨h0,g0,d0,t0,o0⟩:=s'
  have e:o0=s.os:=I'.os
  subst e
  exact I.call (g':=g0) (t':=t0) (d':=d0) u hok I'.bare fun b hb'=>by
    obtain ⟨f0,f1,f2,f3,f4,f5⟩:=hf b hb'
    exact ⟨f3,f1,f4,f5⟩
end
end L2
namespace L2
open PySem PySem.Spec PyProof.Rows
def PTs (Y:Cx) (ifs:List Expr) (t:TT):Prop :=
  ∀ (pins:List (Addr × Obj)) (s:Shared) (σ:L2.St) (H:Hp) (Q:Bool→Hp→Prop),Inv Y pins σ H s→t σ H Q →
    wpAny (model Y.prog Y.w) Y.A (forIn ifs true fun c r=>if r=true then do let ok ← isTrue c Y.env (eval c Y.env); pure (ForInStep.yield ok) else pure (ForInStep.yield r)) (TP Y pins σ Q) Y.xe s
theorem pts_nil {Y:Cx}:PTs Y [] (fun _ H Q=>Q true H):=fun pins s σ H Q I h=>wpAny_tests_nil ⟨H,I,h⟩
def capV (n:Nat) (cap:List Nat) (σ:L2.St):L2.St:=List.replicate n none ++ cap.map fun j=>(σ[j]?).getD none
def tComp (n:Nat) (cap:List Nat) (wi:TI) (g:TG) (tt:TT) (te:TE):TE:=fun σ H Q=>wi σ H fun J H1 => ∀ D,H1 D=none→∃ W:Nat→Nat→L2.St→Hp→Prop,(∃ m,W 0 m (capV n cap σ) (upd H1 D (.lst [])))∧∀ i m σ' H',W i m σ' H' →
  (J.stop i H'∧Q (.ref D) H') ∨ (J.go i H'∧∃ N:L2.St→Hp→Prop,(∀ σ'' H'',N σ'' H''→∃ m',m' < m∧W (i + 1) m' σ'' H'')∧∀ x H2,J.yld i H' x H2→g x σ' H2 fun σ2 H3=>tt σ2 H3 fun b H4 =>
    if b=true then te σ2 H4 fun v H5 => ∃ vs,H5 D=some (.lst vs)∧vs.length < sizeLine∧N σ2 (upd H5 D (.lst (vs ++ [v]))) else N σ2 H4)
theorem pe_comp {X:Cx} {elt tg iter:Expr} {ifs:List Expr} {scope:Scope} {pos:Pos} {n:Nat} {cap:List Nat} {N':List Str} {wi:TI} {g:TG} {tt:TT} {te:TE} (S:CompSc X scope) (hc:X.calm=true) (hi:PI X tg iter wi)
    (hN:N'.length=n + cap.length) (hcap:∀ (k:Nat) (j:Nat),cap[k]?=some j→∃ x,N'[n + k]?=some x∧X.N[j]?=some x∧(x,NameKind.free) ∈ scope.names)
    (hg:∀ C s₃ H₃ fp pins,PG (blk X N' scope C s₃ H₃ fp pins) tg g) (ht:∀ C s₃ H₃ fp pins,PTs (blk X N' scope C s₃ H₃ fp pins) ifs tt) (he:∀ C s₃ H₃ fp pins,PE (blk X N' scope C s₃ H₃ fp pins) elt te)
    (hs:∀ x,foldedSetIterable iter X.env x=pure x:=by intro _; rfl):PE X (.ListComp elt [⟨tg,iter,ifs,0⟩] scope pos) (tComp n cap wi g tt te):=by
  intro pins s σ H Q I h
  rw [eval_ListComp]
  refine wpAny_comprehension_free (use:=none) rfl hs (closure_eq (S.frees I.ok)) S.kind (fun x hx hl=>by rw [S.names x hx,hl]) (thn (hi pins s σ H _ I h) fun v s1 h1=>thn h1 fun itv s2 h2=>?_)
  obtain ⟨it,fp,tn,J,H2,e,I2,T,st2,f2,R⟩:=h2
  subst e
  have lt2:∀ b ∈ fp,b < s2.heap.objs.size:=fun b hb=>by obtain ⟨o,e,_⟩:=T.obj _ _ st2 b hb; exact Heap.lt_size e
  have hD:H2 s2.heap.objs.size=none:=I2.fresh
  obtain ⟨W,⟨m0,w0⟩,turn⟩:=R s2.heap.objs.size hD
  have I3:Inv X pins σ (upd H2 s2.heap.objs.size (.lst [])) { s2 with heap:=s2.heap.push { cls := .type "list",data := .seq ([]:List Value).toArray },toks:=s2.toks }:=I2.lnew (t':=s2.toks) .nil (by simp)
  have f3:∀ b ∈ fp,FpOk X pins (upd H2 s2.heap.objs.size (.lst [])) b:=fun b hb=>⟨by rw [upd_ne (Nat.ne_of_lt (lt2 b hb))]; exact (f2 b hb).1,(f2 b hb).2⟩
  refine wpAny_newObj_type (wpAny_newBlock fun h₁ hns₁ hk hcl₁=>?_)
  have lt3:∀ b ∈ fp,b < (s2.heap.push { cls := .type "list",data := .seq ([]:List Value).toArray }).objs.size:=fun b hb=>by rw [Heap.size_push]; exact Nat.lt_succ_of_lt (lt2 b hb)
  have I4:Inv (blk X N' scope (s2.heap.push { cls := .type "list",data := .seq ([]:List Value).toArray }).objs.size { s2 with heap:=s2.heap.push { cls := .type "list",data := .seq ([]:List Value).toArray },toks:=s2.toks } (upd H2 s2.heap.objs.size (.lst [])) fp pins) [] (capV n cap σ) (upd H2 s2.heap.objs.size (.lst [])) { s2 with heap:=h₁,toks:=s2.toks } :=
    blk_inv I3 S hc f3 lt3 (t1:=s2.toks) hns₁ hk hcl₁ (by simp [capV,hN]) (fun i x v e1 e2=>by
      unfold capV at e2
      by_cases hi:i < n
      · rw [List.getElem?_append_left (by simpa using hi),List.getElem?_replicate] at e2
        split at e2 <;> cases e2
      · rw [List.getElem?_append_right (by simpa using hi),List.length_replicate,List.getElem?_map] at e2
        cases ej:cap[i - n]? with
        | none=>rw [ej] at e2; cases e2
        | some j =>
          rw [ej] at e2
          obtain ⟨x',a1,a2,a3⟩:=hcap (i - n) j ej
          have:n + (i - n)=i:=by omega
          rw [this,e1] at a1
          cases a1
          refine ⟨a3,j,a2,?_⟩
          have e2:(σ[j]?).getD none=some v:=by simpa using e2
          cases q:σ[j]? with
          | none=>rw [q] at e2; cases e2
          | some z=>rw [q] at e2; have:z=some v:=e2; rw [this])
  have loop:codeAny (model X.prog X.w) X.A (.compLoop (.ListComp elt [⟨tg,iter,ifs,0⟩] scope pos) 0 (.ref it) (.ref s2.heap.objs.size) (compEnvC scope (cellsFrom ((s2.heap.push { cls := .type "list",data := .seq ([]:List Value).toArray }).objs.size + 1) scope.names (clOf X.env.cells scope.names [])) (s2.heap.push { cls := .type "list",data := .seq ([]:List Value).toArray }).objs.size X.env))
      (compPost (model X.prog X.w) X.A X.xe none (EP X pins σ Q) (.ref s2.heap.objs.size) (s2.heap.push { cls := .type "list",data := .seq ([]:List Value).toArray }).objs.size) { s2 with heap:=h₁,toks:=s2.toks }:=by
    generalize hY:(blk X N' scope (s2.heap.push { cls := .type "list",data := .seq ([]:List Value).toArray }).objs.size { s2 with heap:=s2.heap.push { cls := .type "list",data := .seq ([]:List Value).toArray },toks:=s2.toks } (upd H2 s2.heap.objs.size (.lst [])) fp pins)=Y at I4
    have st4:tn 0 h₁:=T.keep _ _ _ st2 fun b hb o e=>hk b o (Heap.get?_push_of_some _ e)
    have stat:∀ {H':Hp},(∀ b ∈ fp,H' b=none)→∀ b ∈ fp,FpOk Y [] H' b:=fun hn b hb=>by
      subst hY
      obtain ⟨f0,f1,f2',f3',f4,f5⟩:=f3 b hb
      exact ⟨hn b hb,Nat.ne_of_lt (lt3 b hb),fun z=>(List.mem_cons.mp (I3.stkSub b z)).elim f1 f2', .inl hb,fun x c e=>(by
        rcases S.old I3 e with z | z
        · exact f4 x c z
        · exact Nat.ne_of_gt (Nat.lt_trans (lt3 b hb) z)),fun p hp=>f5 p (by simpa using hp)⟩
    have hgY:PG Y tg g:=hY ▸ hg _ _ _ _ _
    have htY:PTs Y ifs tt:=hY ▸ ht _ _ _ _ _
    have heY:PE Y elt te:=hY ▸ he _ _ _ _ _
    have yp:Y.prog=X.prog:=by subst hY; rfl
    have yw:Y.w=X.w:=by subst hY; rfl
    have yK:Y.K=X.K:=by subst hY; rfl
    have yA:Y.A=X.A:=by subst hY; rfl
    have yc:Y.calm=true:=by subst hY; rfl
    have yx:Y.xe=fun _ _=>False:=by subst hY; rfl
    have ye:Y.env=compEnvC scope (cellsFrom ((s2.heap.push { cls := .type "list",data := .seq ([]:List Value).toArray }).objs.size + 1) scope.names (clOf X.env.cells scope.names [])) (s2.heap.push { cls := .type "list",data := .seq ([]:List Value).toArray }).objs.size X.env:=by subst hY; rfl
    rw [← ye]
    refine compLoop_any (fun n s' => ∃ i σ' H',Inv Y [] σ' H' s'∧tn i s'.heap∧(∀ b ∈ fp,H' b=none)∧W i n σ' H') ?_ m0 ⟨0,_,_,I4,st4,fun b hb=>(f3 b hb).1,w0⟩
    rintro n s3 ⟨i,σ3,H3,I5,st3,fr3,w3⟩
    rcases turn i n σ3 H3 w3 with ⟨stop,qn⟩ | ⟨go,N,hNN,step⟩
    · have d:=T.done Y yp yw yK yc i [] s3 σ3 H3 (fun _ _=>False) I5 (stat fr3) st3 stop
      rw [yA] at d
      refine thn d fun r s4 ⟨hr,I6⟩=>?_
      subst hr
      obtain ⟨m,hm,_⟩:=I6.loc
      rw [ye] at hm
      refine ⟨m,hm,fun h' hb=>⟨.ref s2.heap.objs.size,H3,?_,rfl,qn⟩⟩
      subst hY
      exact blk_back I3 f3 rfl I6 hb
    · have d:=T.item Y yp yw yK yc i [] s3 σ3 H3 (fun _ _=>False) I5 (stat fr3) st3 go
      rw [yA] at d
      refine thn d fun r s4 ⟨u,hr,h4⟩=>?_
      subst hr
      refine thn h4 fun _ s5 ⟨x,H5,I6,r5,y5,st5,fr5⟩=>?_
      have I6':=I6.pinned (stat fr5) (T.obj _ _ st5)
      have a:=hgY _ s5 σ3 H5 x u _ I6' r5 (step x H5 y5)
      rw [yp,yw,yA,yx] at a
      refine thn a fun _ s6 ⟨σ6,H6,I7,q6⟩=>?_
      have b:=htY _ s6 σ6 H6 _ I7 q6
      rw [yp,yw,yA,yx] at b
      refine thn b fun ok s7 ⟨H7,I8,q7⟩=>?_
      have again:∀ {s9:Shared} {H9:Hp},Inv Y ([] ++ pinsAt fp s5.heap) σ6 H9 s9→N σ6 H9→∃ m,m < n∧∃ i σ' H',Inv Y [] σ' H' s9∧tn i s9.heap∧(∀ b ∈ fp,H' b=none)∧W i m σ' H':=fun {s9 H9} I9 n9=>by
        obtain ⟨m',hm,w9⟩:=hNN σ6 H9 n9
        refine ⟨m',hm,i + 1,σ6,H9,I9.unpinned,T.keep _ _ _ st5 fun b hb o e=>(I9.pin (b,o) (List.mem_append_right _ (List.mem_append_right _ (mem_pinsAt hb e)))).1,fun b hb=>?_,w9⟩
        obtain ⟨o,e,d⟩:=T.obj _ _ st5 b hb
        exact (I9.pin (b,o) (List.mem_append_right _ (List.mem_append_right _ (mem_pinsAt hb e)))).2.1
      cases ok with
      | false=>exact iteF (again I8 (by simpa using q7))
      | true =>
        rw [if_pos rfl] at q7
        refine iteT ?_
        have c:=heY _ s7 σ6 H7 _ I8 q7
        rw [yp,yw,yA,yx] at c
        refine thn c fun z s8 ⟨vz,H8,I9,r9,vs,hv,hl,n9⟩=>?_
        have ap:=mt_append (X:=Y) ([] ++ pinsAt fp s5.heap) s8 σ6 H8 (.ref s2.heap.objs.size) [vz] (.ref s2.heap.objs.size) [z] (fun _ H9=>N σ6 H9) I9 rfl (.cons r9 .nil) ⟨_,vs,vz,rfl,rfl,hv,hl,n9⟩
        rw [yp,yw,yA,yx] at ap
        exact thn ap fun _ s9 ⟨_,H9,I10,_,n10⟩=>again I10 n10
  exact codeAny_compStart_list loop (T.self _ 0 _ _ _ (T.keep _ _ _ st2 fun b hb o e=>hk b o (Heap.get?_push_of_some _ e)) loop)
theorem ps_compU {X:Cx} {i₀:Nat} {y₀:Str} {py spos:Pos} {elt tg iter:Expr} {ifs:List Expr} {scope:Scope} {pos:Pos} {n:Nat} {cap:List Nat} {N':List Str} {wi:TI} {g:TG} {tt:TT} {te:TE} (S:CompSc X scope) (hc:X.calm=true) (hi:PI X tg iter wi)
    (hN:N'.length=n + cap.length) (hcap:∀ (k:Nat) (j:Nat),cap[k]?=some j→∃ x,N'[n + k]?=some x∧X.N[j]?=some x∧(x,NameKind.free) ∈ scope.names)
    (hg:∀ C s₃ H₃ fp pins,PG (blk X N' scope C s₃ H₃ fp pins) tg g) (ht:∀ C s₃ H₃ fp pins,PTs (blk X N' scope C s₃ H₃ fp pins) ifs tt) (he:∀ C s₃ H₃ fp pins,PE (blk X N' scope C s₃ H₃ fp pins) elt te)
    (hNd:X.N.Nodup) (hi₀:X.N[i₀]?=some y₀) (hy:Loc X.env.scope y₀) (hsw:swapsWith (.ListComp elt [⟨tg,iter,ifs,0⟩] scope pos) (some (.Name y₀ py)) spos.line X.env=pure true) (hf:X.fn y₀=true ∨ X.env.scope.names.lookup y₀=some .local)
    (hs:∀ x,foldedSetIterable iter X.env x=pure x:=by intro _; rfl):PS X (.Assign [.Name y₀ py] (.ListComp elt [⟨tg,iter,ifs,0⟩] scope pos) spos) (fun D σ H=>tComp n cap wi g tt te σ H fun v H1=>D.nx (σ.set i₀ (some v)) H1):=by
  intro pins s σ H Ed I h
  rw [exec_Assign_Name_used y₀ py _ spos hsw]
  refine wpAny_bind (wpAny_standAt (wpAny_bind ?_))
  show wpAny (model X.prog X.w) X.A (comprehension (.ListComp elt [⟨tg,iter,ifs,0⟩] scope pos) scope X.env _ (newList []) false (eval iter X.env) (some (assign (.Name y₀ py) X.env)) >>= fun _=>pure ()) _ _ s
  refine wpAny_bind (thn (Q:=fun _ s'=>SP X pins Ed .next s') ?_ fun _ s' hq=>wpAny_pure (wpAny_pure hq))
  refine wpAny_comprehension_free (use:=some (assign (.Name y₀ py) X.env)) rfl hs (closure_eq (S.frees I.ok)) S.kind (fun x hx hl=>by rw [S.names x hx,hl]) (thn (hi pins s σ H _ I h) fun v s1 h1=>thn h1 fun itv s2 h2=>?_)
  obtain ⟨it,fp,tn,J,H2,e,I2,T,st2,f2,R⟩:=h2
  subst e
  have lt2:∀ b ∈ fp,b < s2.heap.objs.size:=fun b hb=>by obtain ⟨o,e,_⟩:=T.obj _ _ st2 b hb; exact Heap.lt_size e
  have hD:H2 s2.heap.objs.size=none:=I2.fresh
  obtain ⟨W,⟨m0,w0⟩,turn⟩:=R s2.heap.objs.size hD
  have I3:Inv X pins σ (upd H2 s2.heap.objs.size (.lst [])) { s2 with heap:=s2.heap.push { cls := .type "list",data := .seq ([]:List Value).toArray },toks:=s2.toks }:=I2.lnew (t':=s2.toks) .nil (by simp)
  have f3:∀ b ∈ fp,FpOk X pins (upd H2 s2.heap.objs.size (.lst [])) b:=fun b hb=>⟨by rw [upd_ne (Nat.ne_of_lt (lt2 b hb))]; exact (f2 b hb).1,(f2 b hb).2⟩
  refine wpAny_newObj_type (wpAny_newBlock fun h₁ hns₁ hk hcl₁=>?_)
  have lt3:∀ b ∈ fp,b < (s2.heap.push { cls := .type "list",data := .seq ([]:List Value).toArray }).objs.size:=fun b hb=>by rw [Heap.size_push]; exact Nat.lt_succ_of_lt (lt2 b hb)
  have I4:Inv (blk X N' scope (s2.heap.push { cls := .type "list",data := .seq ([]:List Value).toArray }).objs.size { s2 with heap:=s2.heap.push { cls := .type "list",data := .seq ([]:List Value).toArray },toks:=s2.toks } (upd H2 s2.heap.objs.size (.lst [])) fp pins) [] (capV n cap σ) (upd H2 s2.heap.objs.size (.lst [])) { s2 with heap:=h₁,toks:=s2.toks } :=
    blk_inv I3 S hc f3 lt3 (t1:=s2.toks) hns₁ hk hcl₁ (by simp [capV,hN]) (fun i x v e1 e2=>by
      unfold capV at e2
      by_cases hi:i < n
      · rw [List.getElem?_append_left (by simpa using hi),List.getElem?_replicate] at e2
        split at e2 <;> cases e2
      · rw [List.getElem?_append_right (by simpa using hi),List.length_replicate,List.getElem?_map] at e2
        cases ej:cap[i - n]? with
        | none=>rw [ej] at e2; cases e2
        | some j =>
          rw [ej] at e2
          obtain ⟨x',a1,a2,a3⟩:=hcap (i - n) j ej
          have:n + (i - n)=i:=by omega
          rw [this,e1] at a1
          cases a1
          refine ⟨a3,j,a2,?_⟩
          have e2:(σ[j]?).getD none=some v:=by simpa using e2
          cases q:σ[j]? with
          | none=>rw [q] at e2; cases e2
          | some z=>rw [q] at e2; have:z=some v:=e2; rw [this])
  have loop:codeAny (model X.prog X.w) X.A (.compLoop (.ListComp elt [⟨tg,iter,ifs,0⟩] scope pos) 0 (.ref it) (.ref s2.heap.objs.size) (compEnvC scope (cellsFrom ((s2.heap.push { cls := .type "list",data := .seq ([]:List Value).toArray }).objs.size + 1) scope.names (clOf X.env.cells scope.names [])) (s2.heap.push { cls := .type "list",data := .seq ([]:List Value).toArray }).objs.size X.env))
      (compPost (model X.prog X.w) X.A X.xe (some (assign (.Name y₀ py) X.env)) (fun _ s'=>SP X pins Ed .next s') (.ref s2.heap.objs.size) (s2.heap.push { cls := .type "list",data := .seq ([]:List Value).toArray }).objs.size) { s2 with heap:=h₁,toks:=s2.toks }:=by
    generalize hY:(blk X N' scope (s2.heap.push { cls := .type "list",data := .seq ([]:List Value).toArray }).objs.size { s2 with heap:=s2.heap.push { cls := .type "list",data := .seq ([]:List Value).toArray },toks:=s2.toks } (upd H2 s2.heap.objs.size (.lst [])) fp pins)=Y at I4
    have st4:tn 0 h₁:=T.keep _ _ _ st2 fun b hb o e=>hk b o (Heap.get?_push_of_some _ e)
    have stat:∀ {H':Hp},(∀ b ∈ fp,H' b=none)→∀ b ∈ fp,FpOk Y [] H' b:=fun hn b hb=>by
      subst hY
      obtain ⟨f0,f1,f2',f3',f4,f5⟩:=f3 b hb
      exact ⟨hn b hb,Nat.ne_of_lt (lt3 b hb),fun z=>(List.mem_cons.mp (I3.stkSub b z)).elim f1 f2', .inl hb,fun x c e=>(by
        rcases S.old I3 e with z | z
        · exact f4 x c z
        · exact Nat.ne_of_gt (Nat.lt_trans (lt3 b hb) z)),fun p hp=>f5 p (by simpa using hp)⟩
    have hgY:PG Y tg g:=hY ▸ hg _ _ _ _ _
    have htY:PTs Y ifs tt:=hY ▸ ht _ _ _ _ _
    have heY:PE Y elt te:=hY ▸ he _ _ _ _ _
    have yp:Y.prog=X.prog:=by subst hY; rfl
    have yw:Y.w=X.w:=by subst hY; rfl
    have yK:Y.K=X.K:=by subst hY; rfl
    have yA:Y.A=X.A:=by subst hY; rfl
    have yc:Y.calm=true:=by subst hY; rfl
    have yx:Y.xe=fun _ _=>False:=by subst hY; rfl
    have ye:Y.env=compEnvC scope (cellsFrom ((s2.heap.push { cls := .type "list",data := .seq ([]:List Value).toArray }).objs.size + 1) scope.names (clOf X.env.cells scope.names [])) (s2.heap.push { cls := .type "list",data := .seq ([]:List Value).toArray }).objs.size X.env:=by subst hY; rfl
    rw [← ye]
    refine compLoop_any (fun n s' => ∃ i σ' H',Inv Y [] σ' H' s'∧tn i s'.heap∧(∀ b ∈ fp,H' b=none)∧W i n σ' H') ?_ m0 ⟨0,_,_,I4,st4,fun b hb=>(f3 b hb).1,w0⟩
    rintro n s3 ⟨i,σ3,H3,I5,st3,fr3,w3⟩
    rcases turn i n σ3 H3 w3 with ⟨stop,qn⟩ | ⟨go,N,hNN,step⟩
    · have d:=T.done Y yp yw yK yc i [] s3 σ3 H3 (fun _ _=>False) I5 (stat fr3) st3 stop
      rw [yA] at d
      refine thn d fun r s4 ⟨hr,I6⟩=>?_
      subst hr
      obtain ⟨m,hm,_⟩:=I6.loc
      rw [ye] at hm
      subst hY
      have IX:=blk_back I3 f3 rfl I6 (h'':=s4.heap) ⟨rfl,fun _ _=>rfl⟩
      have cf:H3 (s2.heap.push { cls := .type "list",data := .seq ([]:List Value).toArray }).objs.size=none:=I6.free
      have fC:FpOk X pins H3 (s2.heap.push { cls := .type "list",data := .seq ([]:List Value).toArray }).objs.size:=I3.fpOk (Nat.le_refl _) cf
      obtain ⟨c0,c1,c2,c3,c4,c5⟩:=fC
      refine wpAny_assign_Name (store_ok2 (s:=s4) IX hNd hi₀ hy (v := .ref s2.heap.objs.size) rfl (fun s5 I7 ⟨a,sb,ha⟩=>?_) hf)
      have na:a ≠ (s2.heap.push { cls := .type "list",data := .seq ([]:List Value).toArray }).objs.size:=by
        rcases ha with z | z
        · rw [z]; exact fun w=>c1 w.symm
        · exact c4 _ _ z
      refine ⟨m,hm.sameBut sb (Ne.symm na),fun h' hb=>⟨_,H3,?_,qn⟩⟩
      exact I7.turned (t':=s5.toks) (fun b o n e=>(hb.2 b n).trans e) c0 c1 c3 c4 c5
    · have d:=T.item Y yp yw yK yc i [] s3 σ3 H3 (fun _ _=>False) I5 (stat fr3) st3 go
      rw [yA] at d
      refine thn d fun r s4 ⟨u,hr,h4⟩=>?_
      subst hr
      refine thn h4 fun _ s5 ⟨x,H5,I6,r5,y5,st5,fr5⟩=>?_
      have I6':=I6.pinned (stat fr5) (T.obj _ _ st5)
      have a:=hgY _ s5 σ3 H5 x u _ I6' r5 (step x H5 y5)
      rw [yp,yw,yA,yx] at a
      refine thn a fun _ s6 ⟨σ6,H6,I7,q6⟩=>?_
      have b:=htY _ s6 σ6 H6 _ I7 q6
      rw [yp,yw,yA,yx] at b
      refine thn b fun ok s7 ⟨H7,I8,q7⟩=>?_
      have again:∀ {s9:Shared} {H9:Hp},Inv Y ([] ++ pinsAt fp s5.heap) σ6 H9 s9→N σ6 H9→∃ m,m < n∧∃ i σ' H',Inv Y [] σ' H' s9∧tn i s9.heap∧(∀ b ∈ fp,H' b=none)∧W i m σ' H':=fun {s9 H9} I9 n9=>by
        obtain ⟨m',hm,w9⟩:=hNN σ6 H9 n9
        refine ⟨m',hm,i + 1,σ6,H9,I9.unpinned,T.keep _ _ _ st5 fun b hb o e=>(I9.pin (b,o) (List.mem_append_right _ (List.mem_append_right _ (mem_pinsAt hb e)))).1,fun b hb=>?_,w9⟩
        obtain ⟨o,e,d⟩:=T.obj _ _ st5 b hb
        exact (I9.pin (b,o) (List.mem_append_right _ (List.mem_append_right _ (mem_pinsAt hb e)))).2.1
      cases ok with
      | false=>exact iteF (again I8 (by simpa using q7))
      | true =>
        rw [if_pos rfl] at q7
        refine iteT ?_
        have c:=heY _ s7 σ6 H7 _ I8 q7
        rw [yp,yw,yA,yx] at c
        refine thn c fun z s8 ⟨vz,H8,I9,r9,vs,hv,hl,n9⟩=>?_
        have ap:=mt_append (X:=Y) ([] ++ pinsAt fp s5.heap) s8 σ6 H8 (.ref s2.heap.objs.size) [vz] (.ref s2.heap.objs.size) [z] (fun _ H9=>N σ6 H9) I9 rfl (.cons r9 .nil) ⟨_,vs,vz,rfl,rfl,hv,hl,n9⟩
        rw [yp,yw,yA,yx] at ap
        exact thn ap fun _ s9 ⟨_,H9,I10,_,n10⟩=>again I10 n10
  exact codeAny_compStart_list loop (T.self _ 0 _ _ _ (T.keep _ _ _ st2 fun b hb o e=>hk b o (Heap.get?_push_of_some _ e)) loop)
end L2
namespace DL
open PySem PySem.Spec PyProof.Rows L2
structure Src (K:PySem.W.Frag) (ds:List D) (J:It) (Good:List Addr→Hp→Prop):Prop where
  keep:∀ P H P' H',Good P H→Same (hide P H) (hide P' H')→Good P' H'
  stop:∀ P H,Good P H→J.stop ds.length H
  go:∀ P H i,Good P H→i < ds.length→J.go i H
  yld:∀ P H i x H',Good P H→Lists H P→J.yld i H x H'→i < ds.length→Same H H'∧∃ d,ds[i]?=some d∧Rep K (hide P H') d x
abbrev DI:=Th→Option (Bool × List D)
def hidF (b:Bool) (A F:List Addr):List Addr:=if b then A ++ F else F
def dI (K:PySem.W.Frag) (F:List Addr) (fs:DI):TI:=fun σ H R => ∃ A t b ds,RS K F H A t σ∧fs t=some (b,ds)∧∀ J H1 Good,Same H H1→Src K ds J Good→Good (hidF b A F) H1→R J H1
theorem PI.imp {X:Cx} {tg iter:Expr} {t t':TI} (h:PI X tg iter t) (i:∀ σ H R,t' σ H R→t σ H R):PI X tg iter t':=fun pins s σ H R I q=>h pins s σ H R I (i σ H R q)
def fsL (f:DE):DI:=fun t=>(f t).bind fun r=>match r.d with
  | .lst ds=>some (r.ok,ds)
  | _=>none
def fsE (f:DE):DI:=fun t=>(f t).bind fun r=>match r.d with
  | .lst ds=>some (r.ok,enumD 0 ds)
  | _=>none
def fsR1 (f:DE):DI:=fun t=>(f t).bind fun r=>match r.d with
  | .int n=>if bigI n then some (true,rngD 0 n.toNat) else none
  | _=>none
theorem src_list {K:PySem.W.Frag} {p:Addr} {vs:List V} {ds:List D} (hl:vs.length=ds.length):Src K ds (Itl K p) (fun P H=>SqL K (hide P H) p vs∧Reps K (hide P H) ds vs) where
  keep:=fun P H P' H' q s=>⟨SqL.mono s q.1,Reps.mono s q.2⟩
  stop:=fun P H q=>⟨vs,SqL.mono (hide_sub _ _) q.1,by omega⟩
  go:=fun P H i q hi=>⟨vs,vs[i]'(by omega),SqL.mono (hide_sub _ _) q.1,List.getElem?_eq_getElem (by omega)⟩
  yld:=fun P H i x H' q mu y hi=>by
    obtain ⟨e1,e2⟩:=y
    subst e1
    exact ⟨Same.refl _,q.2.getV (e2 vs (SqL.mono (hide_sub _ _) q.1))⟩
theorem src_enum {K:PySem.W.Frag} {p:Addr} {vs:List V} {ds:List D} (hl:vs.length=ds.length):Src K (enumD 0 ds) (Ite K p) (fun P H=>SqL K (hide P H) p vs∧Reps K (hide P H) ds vs) where
  keep:=fun P H P' H' q s=>⟨SqL.mono s q.1,Reps.mono s q.2⟩
  stop:=fun P H q=>⟨vs,SqL.mono (hide_sub _ _) q.1,by rw [enumD_len]; omega⟩
  go:=fun P H i q hi=>by
    rw [enumD_len] at hi
    exact ⟨vs,vs[i]'(by omega),SqL.mono (hide_sub _ _) q.1,List.getElem?_eq_getElem (by omega)⟩
  yld:=fun P H i x H' q mu y hi=>by
    obtain ⟨l,v,hl0,rfl,rfl,hv⟩:=y
    obtain ⟨d,hd,rd⟩:=q.2.getV (hv vs (SqL.mono (hide_sub _ _) q.1))
    have sm:=upd_sameH (o:=HO.tup [.int i,v]) hl0
    refine ⟨sm,_,enumD_get 0 ds i d hd,?_⟩
    rw [Nat.zero_add]
    exact .tup (SqT.of (hide_get upd_same (notin_lists mu hl0))) (.cons (.int _) (.cons (Rep.mono (same_hide sm) rd) .nil))
theorem src_rng {K:PySem.W.Frag} {lo:Int} {n:Nat}:Src K (rngD lo n) (Itr lo n) (fun _ _=>True) where
  keep:=fun _ _ _ _ _ _=>trivial
  stop:=fun P H _=>by rw [rng_len]; exact Nat.le_refl n
  go:=fun P H i _ hi=>by rw [rng_len] at hi; exact hi
  yld:=fun P H i x H' _ _ y hi=>by
    rw [rng_len] at hi
    obtain ⟨e1,e2⟩:=y
    subst e1
    refine ⟨Same.refl _, .int (lo + i),by simp [rngD,hi],?_⟩
    rw [e2]; exact .int _
theorem RepEv.hidF {K:PySem.W.Frag} {F A:List Addr} {H H':Hp} {r:Ev} {v:V} (m:Lists H (A ++ F)) (gs:Same H H') (q:RepEv K F A H H' r v):Rep K (hide (DL.hidF r.ok A F) H') r.d v:=by
  unfold DL.hidF
  split
  · rename_i c; exact q.clean m gs c
  · exact q.cleanF m
section
variable {X:Cx} {F:List Addr} {a b c:Expr} {es:List Expr} {fa fb fc:DE} {pos:Pos} {tg:Expr}
theorem pid_list (hl:PE X a (dE X.K F fa)):PI X tg a (dI X.K F (fsL fa)):=by
  refine PI.imp (pi_list hl) ?_
  rintro σ H R ⟨A,t,b,ds,RR,e,h⟩
  unfold fsL at e
  cases e1:fa t with
  | none=>rw [e1] at e; cases e
  | some r =>
    rw [e1] at e
    refine ⟨A,t,r,RR,e1,fun v H1 gs q=>?_⟩
    have e:(match r.d with | .lst ds=>some (r.ok,ds) | _=>none)=some (b,ds):=e
    split at e
    case h_2=>cases e
    rename_i ds' z
    cases e
    have cl:=RepEv.hidF RR.mu gs q
    rw [z] at cl
    cases cl with
    | @lst _ p vs h1 h2=>exact ⟨p,rfl,⟨vs,SqL.mono (hide_sub _ _) h1⟩,h _ H1 _ gs (src_list h2.length) ⟨h1,h2⟩⟩
theorem pid_enum {elts:List Expr} {kk:Nat} {tp p1 p2:Pos} (hge:Gl X "enumerate") (hm:X.mg "enumerate"=none) (hl:PE X a (dE X.K F fa)) (hst:starEach [a] X.env=[(false,eval a X.env)]:=by rfl):PI X (.Tuple elts kk tp) (.Call (.Name "enumerate" p1) [a] [] p2) (dI X.K F (fsE fa)):=by
  refine PI.imp (pi_enum hge hm hl hst) ?_
  rintro σ H R ⟨A,t,b,ds,RR,e,h⟩
  unfold fsE at e
  cases e1:fa t with
  | none=>rw [e1] at e; cases e
  | some r =>
    rw [e1] at e
    refine ⟨A,t,r,RR,e1,fun v H1 gs q=>?_⟩
    have e:(match r.d with | .lst ds=>some (r.ok,enumD 0 ds) | _=>none)=some (b,ds):=e
    split at e
    case h_2=>cases e
    rename_i ds' z
    cases e
    have cl:=RepEv.hidF RR.mu gs q
    rw [z] at cl
    cases cl with
    | @lst _ p vs h1 h2=>exact ⟨p,rfl,⟨vs,SqL.mono (hide_sub _ _) h1⟩,h _ H1 _ gs (src_enum h2.length) ⟨h1,h2⟩⟩
theorem pid_rng1 {p1 p2:Pos} (hgr:Gl X "range") (hm:X.mg "range"=none) (ha:PE X a (dE X.K F fa)) (hst:starEach [a] X.env=[(false,eval a X.env)]:=by rfl):PI X tg (.Call (.Name "range" p1) [a] [] p2) (dI X.K F (fsR1 fa)):=by
  refine PI.imp (pi_range1 hgr hm (pa_cons ha pa_nil hst) hst) ?_
  rintro σ H R ⟨A,t,b,ds,RR,e,h⟩
  unfold fsR1 at e
  cases e1:fa t with
  | none=>rw [e1] at e; cases e
  | some r =>
    rw [e1] at e
    refine ⟨A,t,r,RR,e1,fun v H1 gs q=>?_⟩
    have e:(match r.d with | .int n=>if bigI n then some (true,rngD 0 n.toNat) else none | _=>none)=some (b,ds):=e
    split at e
    case h_2=>cases e
    rename_i n z
    split at e
    case isFalse=>cases e
    rename_i ok
    simp only [bigI,decide_eq_true_eq] at ok
    cases e
    have p:=q.full
    rw [z] at p
    cases rep_int p
    exact ⟨n,rfl,by omega,by omega,h _ H1 _ gs src_rng trivial⟩
end
def capD (t:Th):List Nat→Option (Bool × List D)
  | []=>some (true,[])
  | j :: js=>(capD t js).bind fun q=>match t[j]? with
    | some (.val d)=>some (q.1,d :: q.2)
    | some (.own xs)=>some (false, .lst xs :: q.2)
    | some (.dp d)=>some (false,d :: q.2)
    | _=>none
theorem capD_rep {K:PySem.W.Frag} {F A:List Addr} {H:Hp} {t:Th} {σ:L2.St} (R:RS K F H A t σ):∀ {cap:List Nat} {b:Bool} {ds:List D},capD t cap=some (b,ds)→∃ vs:List V,(cap.map fun j=>(σ[j]?).getD none)=vs.map some∧Reps K (hide (hidF b A F) H) ds vs
  | [],b,ds,e=>by cases e; exact ⟨[],rfl, .nil⟩
  | j :: js,b,ds,e=>by
    unfold capD at e
    cases e1:capD t js with
    | none=>rw [e1] at e; cases e
    | some q =>
      obtain ⟨b',ds'⟩:=q
      rw [e1] at e
      obtain ⟨vs,h1,h2⟩:=capD_rep R e1
      have e:(match t[j]? with
        | some (.val d)=>some (b',d :: ds')
        | some (.own xs)=>some (false, .lst xs :: ds')
        | some (.dp d)=>some (false,d :: ds')
        | _=>none)=some (b,ds):=e
      have less:∀ c:Bool,Same (hide (A ++ F) H) (hide (hidF c A F) H):=fun c=>hide_less H fun x z=>by
        cases c with
        | true=>exact z
        | false=>exact List.mem_append_right _ z
      split at e
      · rename_i d z
        cases e
        obtain ⟨v,a1,a2⟩:=R.rel.getVal z
        exact ⟨v :: vs,by simp [a1,h1], .cons (Rep.mono (less _) a2) h2⟩
      · rename_i xs z
        cases e
        obtain ⟨p,us,a1,a2,a3,a4⟩:=R.rel.getOwn z
        refine ⟨.ref p :: vs,by simp [a1,h1], .cons (.lst (SqL.of (hide_get a3 (R.dj p a2))) (Reps.mono (less false) a4)) (Reps.mono (hide_less H fun x z=>?_) h2)⟩
        cases b' with
        | true=>exact List.mem_append_right _ z
        | false=>exact z
      · rename_i d z
        cases e
        obtain ⟨v,B,a1,a2,a3,a4⟩:=R.rel.getDp R.nd z
        refine ⟨v :: vs,by simp [a1,h1], .cons (a4.rep (less false) fun b hb o w=>hide_get w (R.dj b (a2 b hb))) (Reps.mono (hide_less H fun x z=>?_) h2)⟩
        cases b' with
        | true=>exact List.mem_append_right _ z
        | false=>exact z
      · cases e
def compD (k:D→Th→Option Th) (ft:DT) (fe:DE):List D→Th→Option (List D)
  | [],_=>some []
  | d :: ds,t=>(k d t).bind fun t1=>(ft t1).bind fun b=>if b then (fe t1).bind fun r=>(compD k ft fe ds t1).map fun xs=>r.d :: xs else compD k ft fe ds t1
def dComp (n:Nat) (cap:List Nat) (fs:DI) (k:D→Th→Option Th) (ft:DT) (fe:DE):DE:=fun t=>(fs t).bind fun q=>(capD t cap).bind fun c=>if q.2.length ≤ 50000 then (compD k ft fe q.2 (List.replicate n Sl.no ++ c.2.map Sl.val)).bind fun xs=>if (q.1 && c.1) || flats xs then some (.nw xs) else none else none
theorem compD_len {k:D→Th→Option Th} {ft:DT} {fe:DE}:∀ {ds:List D} {t:Th} {xs:List D},compD k ft fe ds t=some xs→xs.length ≤ ds.length
  | [],t,xs,e=>by cases e; simp
  | d :: ds,t,xs,e=>by
    unfold compD at e
    cases e1:k d t with
    | none=>rw [e1] at e; cases e
    | some t1 =>
      rw [e1] at e
      have e:((ft t1).bind fun b=>if b then (fe t1).bind fun r=>(compD k ft fe ds t1).map fun xs=>r.d :: xs else compD k ft fe ds t1)=some xs:=e
      cases e2:ft t1 with
      | none=>rw [e2] at e; cases e
      | some b =>
        rw [e2] at e
        cases b with
        | false=>have:=compD_len (ds:=ds) (t:=t1) e; simp; omega
        | true =>
          have e:((fe t1).bind fun r=>(compD k ft fe ds t1).map fun xs=>r.d :: xs)=some xs:=e
          cases e3:fe t1 with
          | none=>rw [e3] at e; cases e
          | some r =>
            rw [e3] at e
            have e:((compD k ft fe ds t1).map fun xs=>r.d :: xs)=some xs:=e
            cases e4:compD k ft fe ds t1 with
            | none=>rw [e4] at e; cases e
            | some ys=>rw [e4] at e; cases e; have:=compD_len e4; simp; omega
end DL
namespace DL
open PySem PySem.Spec PyProof.Rows L2
theorem RSl.noVals {K:PySem.W.Frag} {H0 H:Hp} {vs:List V} {ds:List D} (r:Reps K H0 ds vs):∀ n,RSl K H0 H (List.replicate n Sl.no ++ ds.map Sl.val) (List.replicate n none ++ vs.map some) []
  | 0=>by simpa using RSl.start (t:=[]) (σ:=[]) .nil r
  | n + 1 => .no (RSl.noVals r n)
theorem hide_same_upd {P:List Addr} {H:Hp} {p:Addr} {o:HO} (hp:p ∈ P):Same (hide P H) (hide P (upd H p o)):=fun b u e=>by
  obtain ⟨n,e⟩:=of_hide e
  exact hide_get (by rw [upd_ne (fun z=>n (by rw [z]; exact hp))]; exact e) n
theorem RS.updF {K:PySem.W.Frag} {P:List Addr} {H:Hp} {t:Th} {σ:L2.St} {p:Addr} {ws:List V} (R:RS K P H [] t σ) (hp:p ∈ P):RS K P (upd H p (.lst ws)) [] t σ where
  mu:=fun q hq=>by
    by_cases z:q=p
    · exact ⟨mL ws,by rw [z]; exact upd_same⟩
    · obtain ⟨us,w⟩:=R.mu q hq
      exact ⟨us,by rw [upd_ne z]; exact w⟩
  nd:=List.nodup_nil
  dj:=fun p hp=>by cases hp
  rel:=RSl.mono (hide_same_upd hp) R.rel fun q hq=>by cases hq
theorem none_owned {K:PySem.W.Frag} {P A:List Addr} {H:Hp} {t:Th} {σ:L2.St} (R:RS K P H A t σ) (g:Gr [] H A H):A=[]:=by
  cases A with
  | nil=>rfl
  | cons a r =>
    rcases g.nw a (List.mem_cons_self ..) with z | z
    · cases z
    · obtain ⟨vs,q⟩:=R.mu a (List.mem_append_left _ (List.mem_cons_self ..))
      rw [q] at z; cases z
def dTrue:DT:=fun _=>some true
theorem PTs.imp {Y:Cx} {ifs:List Expr} {t t':TT} (h:PTs Y ifs t) (i:∀ σ H Q,t' σ H Q→t σ H Q):PTs Y ifs t':=fun pins s σ H Q I q=>h pins s σ H Q I (i σ H Q q)
theorem ptsd_nil {Y:Cx} {F:List Addr}:PTs Y [] (dT Y.K F dTrue):=PTs.imp pts_nil fun σ H Q ⟨A,t,b,R,e,h⟩=>by cases e; exact h H (Same.refl H)
theorem tcomp_of {X:Cx} {F:List Addr} {n:Nat} {cap:List Nat} {fs:DI} {g:TG} {kt:D→Th→Option Th} {ft:DT} {fe:DE} (hk:∀ F',TgOk X.K F' g kt) {σ:L2.St} {H:Hp} {Q:VK} (h:dE X.K F (dComp n cap fs kt ft fe) σ H Q) :
    tComp n cap (dI X.K F fs) g (fun σ H Q => ∃ F',dT X.K F' ft σ H Q) (fun σ H Q => ∃ F',dE X.K F' fe σ H Q) σ H Q:=by
  obtain ⟨A,t,r,R,e,h⟩:=h
  unfold dComp at e
  cases e1:fs t with
  | none=>rw [e1] at e; cases e
  | some q =>
    obtain ⟨b,ds⟩:=q
    cases e2:capD t cap with
    | none=>rw [e1,e2] at e; cases e
    | some q2 =>
      obtain ⟨c,caps⟩:=q2
      rw [e1,e2] at e
      have e:(if ds.length ≤ 50000 then (compD kt ft fe ds (List.replicate n Sl.no ++ caps.map Sl.val)).bind fun xs=>if (b && c) || flats xs then some (Ev.nw xs) else none else none)=some r:=e
      split at e
      case isFalse=>cases e
      rename_i hlen
      cases e3:compD kt ft fe ds (List.replicate n Sl.no ++ caps.map Sl.val) with
      | none=>rw [e3] at e; cases e
      | some xs =>
        rw [e3] at e
        have e:(if (b && c) || flats xs then some (Ev.nw xs) else none)=some r:=e
        split at e
        case isFalse=>cases e
        rename_i ok
        cases e
        have xl:=compD_len e3
        obtain ⟨cvs,cv1,cv2⟩:=capD_rep R e2
        -- what is hidden from the block,but its own list
        obtain ⟨F',F'def⟩:∃ F',F'=hidF (b && c) A F:=⟨_,rfl⟩
        have subF:∀ x ∈ F',x ∈ A ++ F:=fun x hx=>by
          rw [F'def] at hx
          unfold hidF at hx
          split at hx
          · exact hx
          · exact List.mem_append_right _ hx
        have lessB:∀ H:Hp,Same (hide (hidF b A F) H) (hide F' H):=fun H=>hide_less H fun x hx=>by
          rw [F'def] at hx
          cases b <;> cases c <;> simp [hidF] at hx ⊢ <;> first | exact hx | exact .inr hx | (rcases hx with z | z <;> simp [z])
        have lessC:∀ H:Hp,Same (hide (hidF c A F) H) (hide F' H):=fun H=>hide_less H fun x hx=>by
          rw [F'def] at hx
          cases b <;> cases c <;> simp [hidF] at hx ⊢ <;> first | exact hx | exact .inr hx | (rcases hx with z | z <;> simp [z])
        have wi:tComp n cap (dI X.K F fs) g (fun σ H Q => ∃ F',dT X.K F' ft σ H Q) (fun σ H Q => ∃ F',dE X.K F' fe σ H Q) σ H Q:=by
          refine ⟨A,t,b,ds,R,e1,fun J H1 Good gs src gd Dd hD=>?_⟩
          have H1A:Lists H1 (A ++ F):=R.mu.mono gs
          have st0:Same (hide F' H1) (hide (Dd :: F') (upd H1 Dd (.lst []))):=hide_upd hD
          refine ⟨fun i m σ' H'=>i + m=ds.length∧∃ th acc rest vs,RS X.K (Dd :: F') H' [] th σ'∧compD kt ft fe (ds.drop i) th=some rest∧acc ++ rest=xs∧H' Dd=some (.lst vs)∧Reps X.K (hide (Dd :: F') H') acc vs∧Same H1 H'∧Good (Dd :: F') H',
            ⟨ds.length,by omega,_,[],xs,[],⟨?_,List.nodup_nil,fun p hp=>(by cases hp),?_⟩,by simpa using e3,rfl,upd_same, .nil,upd_sameH hD,src.keep _ _ _ _ gd (fun b o z=>st0 _ _ (lessB _ _ _ z))⟩,?_⟩
          · intro q hq
            have hq:q ∈ Dd :: F':=hq
            rcases List.mem_cons.mp hq with z | z
            · exact ⟨mL [],by rw [z]; exact upd_same⟩
            · obtain ⟨us,w⟩:=H1A q (subF q z)
              exact ⟨us,(upd_sameH hD) _ _ w⟩
          · unfold capV
            rw [cv1]
            exact RSl.noVals (Reps.mono (fun b o z=>st0 _ _ (lessC H1 _ _ (same_hide gs _ _ z))) cv2) n
          · rintro i m σ' H' ⟨hm,th,acc,rest,vs,RR,ec,ex,hv,hr,sm,gg⟩
            cases m with
            | zero =>
              have z:i=ds.length:=by omega
              subst z
              rw [List.drop_length] at ec
              cases ec
              rw [List.append_nil] at ex
              subst ex
              refine .inl ⟨src.stop _ _ gg,h _ H' (gs.trans sm) ⟨Dd,vs,rfl,Same.free gs hD,hv,?_⟩⟩
              rcases Bool.or_eq_true _ _ ▸ ok with k | k
              · have:F'=A ++ F:=by rw [F'def]; unfold hidF; rw [k]; rfl
                rw [← this]; exact hr
              · refine Reps.hid (P:=Dd :: (A ++ F)) (fun q hq=>?_) k (Reps.mono (hide_sub _ _) hr)
                rcases List.mem_cons.mp hq with z | z
                · exact ⟨mL vs,by rw [z]; exact hv⟩
                · obtain ⟨us,w⟩:=H1A q z
                  exact ⟨us,sm _ _ w⟩
            | succ m =>
              have hil:i < ds.length:=by omega
              refine .inr ⟨src.go _ _ i gg hil,fun σ' H'=>i + 1 + m=ds.length∧∃ th acc rest vs,RS X.K (Dd :: F') H' [] th σ'∧compD kt ft fe (ds.drop (i + 1)) th=some rest∧acc ++ rest=xs∧H' Dd=some (.lst vs)∧Reps X.K (hide (Dd :: F') H') acc vs∧Same H1 H'∧Good (Dd :: F') H',
                fun σ' H' q=>⟨m,Nat.lt_succ_self m,q⟩,fun x H2 y=>?_⟩
              obtain ⟨gs2,d,hd,rd⟩:=src.yld _ _ i x H2 gg RR.mu y hil
              have ed:ds.drop i=d :: ds.drop (i + 1):=by
                have hd':ds[i]=d:=by
                  rw [List.getElem?_eq_getElem hil] at hd
                  exact Option.some.inj hd
                rw [← hd']
                exact List.drop_eq_getElem_cons hil
              rw [ed] at ec
              unfold compD at ec
              cases k1:kt d th with
              | none=>rw [k1] at ec; cases ec
              | some t1 =>
                rw [k1] at ec
                have ec:((ft t1).bind fun b=>if b then (fe t1).bind fun r=>(compD kt ft fe (ds.drop (i + 1)) t1).map fun xs=>r.d :: xs else compD kt ft fe (ds.drop (i + 1)) t1)=some rest:=ec
                refine hk (Dd :: F') σ' H2 [] th t1 d x _ (RR.grow gs2) rd k1 fun σ2 A2 gr2 R2=>?_
                have A20:=none_owned R2 gr2
                subst A20
                cases k2:ft t1 with
                | none=>rw [k2] at ec; cases ec
                | some bb =>
                  rw [k2] at ec
                  refine ⟨Dd :: F',[],t1,bb,R2,k2,fun H3 gs3=>?_⟩
                  cases bb with
                  | false =>
                    refine iteF ⟨by omega,t1,acc,rest,vs,R2.grow gs3,ec,ex,gs3 _ _ (gs2 _ _ hv),Reps.mono (same_hide (gs2.trans gs3)) hr,(sm.trans gs2).trans gs3,src.keep _ _ _ _ gg (same_hide (gs2.trans gs3))⟩
                  | true =>
                    have ec:((fe t1).bind fun r=>(compD kt ft fe (ds.drop (i + 1)) t1).map fun xs=>r.d :: xs)=some rest:=ec
                    cases k3:fe t1 with
                    | none=>rw [k3] at ec; cases ec
                    | some re =>
                      rw [k3] at ec
                      have ec:((compD kt ft fe (ds.drop (i + 1)) t1).map fun xs=>re.d :: xs)=some rest:=ec
                      cases k4:compD kt ft fe (ds.drop (i + 1)) t1 with
                      | none=>rw [k4] at ec; cases ec
                      | some ys =>
                        rw [k4] at ec
                        cases ec
                        refine iteT ⟨Dd :: F',[],t1,re,R2.grow gs3,k3,fun v H4 gs4 q4=>⟨vs,gs4 _ _ (gs3 _ _ (gs2 _ _ hv)),?_,?_⟩⟩
                        · have l1:=hr.length
                          have l2:acc.length + (ys.length + 1)=xs.length:=by rw [← ex]; simp
                          exact Nat.lt_of_lt_of_le (show vs.length < 50000 by omega) (by rw [sizeLine_eq]; decide)
                        · have s4:=(gs2.trans gs3).trans gs4
                          have hu:Same (hide (Dd :: F') H4) (hide (Dd :: F') (upd H4 Dd (.lst (vs ++ [v])))):=hide_same_upd (List.mem_cons_self ..)
                          have rv:=q4.cleanF ((R2.grow gs3).mu)
                          refine ⟨by omega,t1,acc ++ [re.d],ys,vs ++ [v],RS.updF ((R2.grow gs3).grow gs4) (List.mem_cons_self ..),k4,by simpa using ex,upd_same,?_,?_,?_⟩
                          · exact (Reps.mono (fun b o z=>hu _ _ (same_hide s4 _ _ z)) hr).app (Reps.one (Rep.mono hu rv))
                          · exact fun b o z=>by
                              rw [upd_ne (fun w=>by rw [w,hD] at z; cases z)]
                              exact s4 _ _ (sm _ _ z)
                          · exact src.keep _ _ _ _ gg (fun b o z=>hu _ _ (same_hide s4 _ _ z))
        exact wi
theorem ped_comp {X:Cx} {F:List Addr} {elt tg iter:Expr} {ifs:List Expr} {scope:Scope} {pos:Pos} {n:Nat} {cap:List Nat} {N':List Str} {fs:DI} {g:TG} {kt:D→Th→Option Th} {ft:DT} {fe:DE} (S:CompSc X scope) (hc:X.calm=true) (hi:PI X tg iter (dI X.K F fs))
    (hN:N'.length=n + cap.length) (hcap:∀ (k:Nat) (j:Nat),cap[k]?=some j→∃ x,N'[n + k]?=some x∧X.N[j]?=some x∧(x,NameKind.free) ∈ scope.names)
    (hg:∀ C s₃ H₃ fp pins,PG (blk X N' scope C s₃ H₃ fp pins) tg g) (hk:∀ F',TgOk X.K F' g kt) (ht:∀ C s₃ H₃ fp pins F',PTs (blk X N' scope C s₃ H₃ fp pins) ifs (dT X.K F' ft)) (he:∀ C s₃ H₃ fp pins F',PE (blk X N' scope C s₃ H₃ fp pins) elt (dE X.K F' fe))
    (hs:∀ x,foldedSetIterable iter X.env x=pure x:=by intro _; rfl):PE X (.ListComp elt [⟨tg,iter,ifs,0⟩] scope pos) (dE X.K F (dComp n cap fs kt ft fe)) :=
  PE.imp (pe_comp (g:=g) S hc hi hN hcap hg (fun C s₃ H₃ fp pins pins' s σ H Q I ⟨F',q⟩=>ht C s₃ H₃ fp pins F' pins' s σ H Q I q) (fun C s₃ H₃ fp pins pins' s σ H Q I ⟨F',q⟩=>he C s₃ H₃ fp pins F' pins' s σ H Q I q) hs) fun _ _ _ h=>tcomp_of hk h
def compOk (names:List (Str × NameKind)) (kind:Str→Option NameKind):Bool:=names.all fun y=>(y.2 != .free || kind y.1 == some .cell || kind y.1 == some .free) && (names.lookup y.1 == some y.2)
theorem compSc {X:Cx} {scope:Scope} (hk:scope.kind = .function:=by rfl) (h:compOk scope.names X.env.kindOf=true:=by rfl):CompSc X scope:=by
  have h':=List.all_eq_true.mp h
  refine ⟨hk,fun y hy hf=>?_,fun y hy=>?_⟩
  · have:=h' y hy
    simp only [Bool.and_eq_true,Bool.or_eq_true,bne_iff_ne,beq_iff_eq] at this
    rcases this.1 with (z | z) | z
    · exact absurd hf z
    · exact .inl z
    · exact .inr z
  · have:=h' y hy
    simp only [Bool.and_eq_true,beq_iff_eq] at this
    exact this.2
def capOk (N' N:List Str) (n:Nat) (names:List (Str × NameKind)):Nat→List Nat→Bool
  | _,[]=>true
  | k,j :: js=>(match N'[n + k]?,N[j]? with
    | some x,some y=>x == y && names.any fun z=>z.1 == x && z.2 == .free
    | _,_=>false) && capOk N' N n names (k + 1) js
theorem capOk_of {N' N:List Str} {n:Nat} {names:List (Str × NameKind)}:∀ {cap:List Nat} {k0:Nat},capOk N' N n names k0 cap=true→∀ (k j:Nat),cap[k]?=some j→∃ x,N'[n + (k0 + k)]?=some x∧N[j]?=some x∧(x,NameKind.free) ∈ names
  | [],k0,_,k,j,e=>by simp at e
  | i :: js,k0,h,k,j,e=>by
    unfold capOk at h
    rw [Bool.and_eq_true] at h
    cases k with
    | zero =>
      simp at e
      subst e
      have h1:=h.1
      split at h1
      · rename_i x y z1 z2
        rw [Bool.and_eq_true,beq_iff_eq,List.any_eq_true] at h1
        obtain ⟨e1,w,w1,w2⟩:=h1
        rw [Bool.and_eq_true,beq_iff_eq,beq_iff_eq] at w2
        obtain ⟨a,b⟩:=w
        simp only at w2
        rw [w2.1,w2.2] at w1
        exact ⟨x,by simpa using z1,by rw [z2,e1],w1⟩
      · cases h1
    | succ k =>
      obtain ⟨x,a,b,c⟩:=capOk_of h.2 k j (by simpa using e)
      exact ⟨x,by rw [show k0 + (k + 1)=k0 + 1 + k by omega]; exact a,b,c⟩
theorem ped_compr {X:Cx} {F:List Addr} {elt tg iter:Expr} {ifs:List Expr} {scope:Scope} {pos:Pos} {fs:DI} {g:TG} {kt:D→Th→Option Th} {ft:DT} {fe:DE} (n:Nat) (cap:List Nat) (N':List Str) (hc:X.calm=true) (hi:PI X tg iter (dI X.K F fs))
    (hg:∀ C s₃ H₃ fp pins,PG (blk X N' scope C s₃ H₃ fp pins) tg g) (hk:∀ F',TgOk X.K F' g kt) (ht:∀ C s₃ H₃ fp pins F',PTs (blk X N' scope C s₃ H₃ fp pins) ifs (dT X.K F' ft)) (he:∀ C s₃ H₃ fp pins F',PE (blk X N' scope C s₃ H₃ fp pins) elt (dE X.K F' fe))
    (hkd:scope.kind = .function:=by rfl) (hcs:compOk scope.names X.env.kindOf=true:=by rfl) (hN:N'.length=n + cap.length:=by rfl) (hcap:capOk N' X.N n scope.names 0 cap=true:=by rfl)
    (hs:∀ x,foldedSetIterable iter X.env x=pure x:=by intro _; rfl):PE X (.ListComp elt [⟨tg,iter,ifs,0⟩] scope pos) (dE X.K F (dComp n cap fs kt ft fe)) :=
  ped_comp (compSc hkd hcs) hc hi hN (fun k j e=>by simpa using capOk_of hcap k j e) hg hk ht he hs
end DL
namespace L2
open PySem PySem.Spec PyProof.Rows
abbrev EMS:=Addr→L2.St→Hp→(L2.St→Hp→Prop)→Prop
def emT (e:Expr) (g2:Comprehension) (acc:Value) (env:Env):Sem Unit:=do
  let x ← eval g2.iter env
  standAt g2.iter.pos
  let x ← foldedSetIterable g2.iter env x
  let _ ← runOwn (.compStart e 1 (← holding [x] (pyIter x)) acc env) env
theorem compTurn_2a {elt target iter:Expr} {ifs:List Expr} {g2:Comprehension} {scope:Scope} {pos:Pos} {it acc:Value} {env:Env} (h2:g2.is_async=0) :
    compTurn (.ListComp elt [⟨target,iter,ifs,0⟩,g2] scope pos) 0 it acc env=(do
      standAt iter.pos
      match ← pyNext it with
      | none=>pure (.done .next)
      | some v =>
        letOwnedTupleGo target it v
        assign target env v
        let mut ok:=true
        for c in ifs do
          if ok then ok ← isTrue c env (eval c env)
        if ok then emT (.ListComp elt [⟨target,iter,ifs,0⟩,g2] scope pos) g2 acc env
        again (.compLoop (.ListComp elt [⟨target,iter,ifs,0⟩,g2] scope pos) 0 it acc env)):=by
  obtain ⟨t2,i2,f2,a2⟩:=g2
  have h2:a2=0:=h2
  subst h2
  simp only [emT,bind_assoc,pure_bind]
  rfl
theorem compTurn_2b {elt iter:Expr} {ifs:List Expr} {g1:Comprehension} {target:Expr} {scope:Scope} {pos:Pos} {it acc:Value} {env:Env} :
    compTurn (.ListComp elt [g1,⟨target,iter,ifs,0⟩] scope pos) 1 it acc env=(do
      standAt iter.pos
      match ← pyNext it with
      | none=>pure (.done .next)
      | some v =>
        letOwnedTupleGo target it v
        assign target env v
        let mut ok:=true
        for c in ifs do
          if ok then ok ← isTrue c env (eval c env)
        if ok then (do let _ ← call (.builtin "list.append") [acc, ← eval elt env])
        again (.compLoop (.ListComp elt [g1,⟨target,iter,ifs,0⟩] scope pos) 1 it acc env)):=by rfl
theorem compLoop_em {prog:Program} {w:World} {A:Around} {R:Result→Shared→Prop} {s:Shared} {elt target:Expr} {ip:Pos} {gens:List Comprehension} {depth:Nat} {ifs:List Expr} {scope:Scope} {pos:Pos} {it acc:Value} {env:Env} (em:Sem Unit)
    (heq:compTurn (.ListComp elt gens scope pos) depth it acc env=(do
      standAt ip
      match ← pyNext it with
      | none=>pure (.done .next)
      | some v =>
        letOwnedTupleGo target it v
        assign target env v
        let mut ok:=true
        for c in ifs do
          if ok then ok ← isTrue c env (eval c env)
        if ok then em
        again (.compLoop (.ListComp elt gens scope pos) depth it acc env))) (I:Nat→Shared→Prop)
    (turn:∀ n s,I n s→wpAny (model prog w) A (pyNext it) (fun r s₁=>match r with
      | none=>R (.ok .next) s₁
      | some v=>wpAny (model prog w) A (letOwnedTupleGo target it v) (fun _ s₁'=>wpAny (model prog w) A (assign target env v) (fun _ s₂ =>
          wpAny (model prog w) A (forIn ifs true fun c r=>if r=true then do let ok ← isTrue c env (eval c env); pure (ForInStep.yield ok) else pure (ForInStep.yield r)) (fun ok s₃ =>
            if ok=true then wpAny (model prog w) A em (fun _ s₅ => ∃ m,m < n∧I m s₅) (fun _ _=>False) s₃
            else ∃ m,m < n∧I m s₃) (fun _ _=>False) s₂) (fun _ _=>False) s₁') (fun _ _=>False) s₁) (fun _ _=>False) s)
    (n:Nat) (h:I n s):codeAny (model prog w) A (.compLoop (.ListComp elt gens scope pos) depth it acc env) R s:=by
  refine codeAny_loop rfl I (fun n s hI=>?_) n h
  show wpAny _ A ((compTurn (.ListComp elt gens scope pos) depth it acc env).onRaise (fun x=>do noteFrame x env; theTreesLotGoes x)) _ _ s
  refine wpAny_noted ?_
  rw [heq]
  refine wpAny_bind (wpAny_standAt (wpAny_bind (wpAny_mono (turn n s hI) (fun r s₁ h₁=>?_) fun _ _ h'=>h'.elim)))
  cases r with
  | none=>exact wpAny_pure h₁
  | some v =>
    refine wpAny_bind (wpAny_mono h₁ (fun _ s₁' h₁'=>?_) fun _ _ h'=>h'.elim)
    refine wpAny_bind (wpAny_mono h₁' (fun _ s₂ h₂=>wpAny_bind (wpAny_mono h₂ (fun ok s₃ h₃=>?_) fun _ _ h'=>h'.elim)) fun _ _ h'=>h'.elim)
    cases ok with
    | false=>exact wpAny_pure ⟨rfl,h₃⟩
    | true=>exact wpAny_bind (wpAny_mono h₃ (fun _ s₅ h₅=>wpAny_pure ⟨rfl,h₅⟩) fun _ _ h'=>h'.elim)
theorem codeAny_compStart_1 {prog:Program} {w:World} {A:Around} {R:Result→Shared→Prop} {s:Shared} {elt target iter ifs g1 scope pos it acc env}
    (h0:codeAny (model prog w) A (.compLoop (.ListComp elt [g1,⟨target,iter,ifs,0⟩] scope pos) 1 it acc env) R s)
    (h:wpAny (model prog w) A (pyIter it) (fun it' s'=>codeAny (model prog w) A (.compLoop (.ListComp elt [g1,⟨target,iter,ifs,0⟩] scope pos) 1 it' acc env) R s')
      (notedBy (model prog w) A env fun x s'=>R (.error x) s') s) :
    codeAny (model prog w) A (.compStart (.ListComp elt [g1,⟨target,iter,ifs,0⟩] scope pos) 1 it acc env) R s:=by
  refine codeAny_of_tree ?_
  show wpAny _ _ ((compStart (.ListComp elt [g1,⟨target,iter,ifs,0⟩] scope pos) 1 it acc env).onRaise (fun x=>do noteFrame x env; standAt theWindowsPlace)) _ _ s
  refine wpAny_notedAt ?_
  unfold compStart
  show wpAny _ _ (ask >>= _) _ _ s
  refine wpAny_bind (wpAny_askSetting (wpAny_ite ?_))
  split
  · first
      | exact wpAny_bind (wpAny_pure (wpAny_pure (And.intro rfl h0)))
      | exact wpAny_pure (And.intro rfl h0)
  · first
      | exact wpAny_bind (wpAny_rule (wpAny_bind (wpAny_standAt (wpAny_bind (wpAny_mono h (fun it' s' h'=>wpAny_pure (And.intro rfl h')) fun _ _ x=>x)))))
      | (refine wpAny_bind (wpAny_rule ?_); show wpAny _ _ (standAt iter.pos >>= _) _ _ s; exact wpAny_bind (wpAny_standAt (wpAny_bind (wpAny_mono h (fun it' s' h'=>wpAny_pure (And.intro rfl h')) fun _ _ x=>x))))
def tCompG (n:Nat) (cap:List Nat) (wi:TI) (g:TG) (tt:TT) (em:EMS):TE:=fun σ H Q=>wi σ H fun J H1 => ∀ D,H1 D=none→∃ W:Nat→Nat→L2.St→Hp→Prop,(∃ m,W 0 m (capV n cap σ) (upd H1 D (.lst [])))∧∀ i m σ' H',W i m σ' H' →
  (J.stop i H'∧Q (.ref D) H') ∨ (J.go i H'∧∃ N:L2.St→Hp→Prop,(∀ σ'' H'',N σ'' H''→∃ m',m' < m∧W (i + 1) m' σ'' H'')∧∀ x H2,J.yld i H' x H2→g x σ' H2 fun σ2 H3=>tt σ2 H3 fun b H4 =>
    if b=true then em D σ2 H4 N else N σ2 H4)
def PEm (Y:Cx) (tree:Sem Unit) (em:L2.St→Hp→(L2.St→Hp→Prop)→Prop):Prop :=
  ∀ (pins:List (Addr × Obj)) (s:Shared) (σ:L2.St) (H:Hp) (R:L2.St→Hp→Prop),Inv Y pins σ H s→em σ H R→wpAny (model Y.prog Y.w) Y.A tree (fun _ s' => ∃ σ' H',Inv Y pins σ' H' s'∧R σ' H') Y.xe s
def tInner (wi:TI) (g:TG) (tt:TT) (te:TE):EMS:=fun D σ H R=>wi σ H fun J H1 => ∃ W:Nat→Nat→L2.St→Hp→Prop,(∃ m,W 0 m σ H1)∧∀ i m σ' H',W i m σ' H' →
  (J.stop i H'∧R σ' H') ∨ (J.go i H'∧∃ N:L2.St→Hp→Prop,(∀ σ'' H'',N σ'' H''→∃ m',m' < m∧W (i + 1) m' σ'' H'')∧∀ x H2,J.yld i H' x H2→g x σ' H2 fun σ2 H3=>tt σ2 H3 fun b H4 =>
    if b=true then te σ2 H4 fun v H5 => ∃ vs,H5 D=some (.lst vs)∧vs.length < sizeLine∧N σ2 (upd H5 D (.lst (vs ++ [v]))) else N σ2 H4)
theorem pem_inner {Y:Cx} {elt tg iter:Expr} {ifs:List Expr} {g1:Comprehension} {scope:Scope} {pos:Pos} {wi:TI} {g:TG} {tt:TT} {te:TE} {D:Addr} (yc:Y.calm=true) (yx:Y.xe=fun _ _=>False) (hi:PI Y tg iter wi) (hg:PG Y tg g) (ht:PTs Y ifs tt) (he:PE Y elt te)
    (hs:∀ x,foldedSetIterable iter Y.env x=pure x:=by intro _; rfl):PEm Y (emT (.ListComp elt [g1,⟨tg,iter,ifs,0⟩] scope pos) ⟨tg,iter,ifs,0⟩ (.ref D) Y.env) (tInner wi g tt te D):=by
  intro pins s σ H R I h
  unfold emT
  refine wpAny_bind (thn (hi pins s σ H _ I h) fun v s1 h1=>wpAny_bind (wpAny_standAt (wpAny_bind (wpAny_of_eq (hs v) (wpAny_bind (wpAny_holding (thn h1 fun itv s2 h2=>?_)))))))
  obtain ⟨it,fp,tn,J,H2,e,I2,T,st2,f2,W,⟨m0,w0⟩,turn⟩:=h2
  subst e
  refine wpAny_bind (wpAny_runOwn ?_)
  have stat:∀ {H':Hp},(∀ b ∈ fp,H' b=none)→∀ b ∈ fp,FpOk Y pins H' b:=fun hn b hb=>⟨hn b hb,(f2 b hb).2⟩
  have loop:∀ s2',Inv Y pins σ H2 s2'→tn 0 s2'.heap→codeAny (model Y.prog Y.w) Y.A (.compLoop (.ListComp elt [g1,⟨tg,iter,ifs,0⟩] scope pos) 1 (.ref it) (.ref D) Y.env)
      (fun r s'=>match r with | .ok f=>wpAny (model Y.prog Y.w) Y.A (pure ()) (fun _ s' => ∃ σ' H',Inv Y pins σ' H' s'∧R σ' H') Y.xe s' | .error e=>cameBackBy (model Y.prog Y.w) Y.A Y.env Y.xe e s') s2':=by
    intro s2' I2' st2'
    refine compLoop_em (do let _ ← call (.builtin "list.append") [.ref D, ← eval elt Y.env]) compTurn_2b (fun n s' => ∃ i σ' H',Inv Y pins σ' H' s'∧tn i s'.heap∧(∀ b ∈ fp,H' b=none)∧W i n σ' H') ?_ m0 ⟨0,_,_,I2',st2',fun b hb=>(f2 b hb).1,w0⟩
    rintro n s3 ⟨i,σ3,H3,I5,st3,fr3,w3⟩
    rcases turn i n σ3 H3 w3 with ⟨stop,qn⟩ | ⟨go,N,hNN,step⟩
    · refine thn (T.done Y rfl rfl rfl yc i pins s3 σ3 H3 (fun _ _=>False) I5 (stat fr3) st3 stop) fun r s4 ⟨hr,I6⟩=>?_
      subst hr
      exact wpAny_pure ⟨σ3,H3,I6,qn⟩
    · refine thn (T.item Y rfl rfl rfl yc i pins s3 σ3 H3 (fun _ _=>False) I5 (stat fr3) st3 go) fun r s4 ⟨u,hr,h4⟩=>?_
      subst hr
      refine thn h4 fun _ s5 ⟨x,H5,I6,r5,y5,st5,fr5⟩=>?_
      have I6':=I6.pinned (stat fr5) (T.obj _ _ st5)
      have a:=hg _ s5 σ3 H5 x u _ I6' r5 (step x H5 y5)
      rw [yx] at a
      refine thn a fun _ s6 ⟨σ6,H6,I7,q6⟩=>?_
      have b:=ht _ s6 σ6 H6 _ I7 q6
      rw [yx] at b
      refine thn b fun ok s7 ⟨H7,I8,q7⟩=>?_
      have again:∀ {s9:Shared} {H9:Hp},Inv Y (pins ++ pinsAt fp s5.heap) σ6 H9 s9→N σ6 H9→∃ m,m < n∧∃ i σ' H',Inv Y pins σ' H' s9∧tn i s9.heap∧(∀ b ∈ fp,H' b=none)∧W i m σ' H':=fun {s9 H9} I9 n9=>by
        obtain ⟨m',hm,w9⟩:=hNN σ6 H9 n9
        refine ⟨m',hm,i + 1,σ6,H9,I9.unpinned,T.keep _ _ _ st5 fun b hb o e=>(I9.pin (b,o) (List.mem_append_right _ (List.mem_append_right _ (mem_pinsAt hb e)))).1,fun b hb=>?_,w9⟩
        obtain ⟨o,e,d⟩:=T.obj _ _ st5 b hb
        exact (I9.pin (b,o) (List.mem_append_right _ (List.mem_append_right _ (mem_pinsAt hb e)))).2.1
      cases ok with
      | false=>exact iteF (again I8 (by simpa using q7))
      | true =>
        rw [if_pos rfl] at q7
        refine iteT ?_
        have c:=he _ s7 σ6 H7 _ I8 q7
        rw [yx] at c
        refine wpAny_bind (thn c fun z s8 ⟨vz,H8,I9,r9,vs,hv,hl,n9⟩=>wpAny_bind ?_)
        have ap:=mt_append (X:=Y) (pins ++ pinsAt fp s5.heap) s8 σ6 H8 (.ref D) [vz] (.ref D) [z] (fun _ H9=>N σ6 H9) I9 rfl (.cons r9 .nil) ⟨_,vs,vz,rfl,rfl,hv,hl,n9⟩
        rw [yx] at ap
        exact thn ap fun _ s9 ⟨_,H9,I10,_,n10⟩=>wpAny_pure (again I10 n10)
  exact codeAny_compStart_1 (loop s2 I2 st2) (T.self _ 0 _ _ _ st2 (loop s2 I2 st2))
theorem pe_compG {X:Cx} {elt tg iter:Expr} {ifs:List Expr} {scope:Scope} {pos:Pos} {n:Nat} {cap:List Nat} {N':List Str} {wi:TI} {g:TG} {tt:TT} {em:EMS} {g2:Comprehension} (S:CompSc X scope) (hc:X.calm=true) (hi:PI X tg iter wi)
    (hN:N'.length=n + cap.length) (hcap:∀ (k:Nat) (j:Nat),cap[k]?=some j→∃ x,N'[n + k]?=some x∧X.N[j]?=some x∧(x,NameKind.free) ∈ scope.names)
    (hg:∀ C s₃ H₃ fp pins,PG (blk X N' scope C s₃ H₃ fp pins) tg g) (ht:∀ C s₃ H₃ fp pins,PTs (blk X N' scope C s₃ H₃ fp pins) ifs tt) (he:∀ C s₃ H₃ fp pins D,PEm (blk X N' scope C s₃ H₃ fp pins) (emT (.ListComp elt [⟨tg,iter,ifs,0⟩,g2] scope pos) g2 (.ref D) (blk X N' scope C s₃ H₃ fp pins).env) (em D))
    (h2:g2.is_async=0) (hs:∀ x,foldedSetIterable iter X.env x=pure x:=by intro _; rfl):PE X (.ListComp elt [⟨tg,iter,ifs,0⟩,g2] scope pos) (tCompG n cap wi g tt em):=by
  intro pins s σ H Q I h
  rw [eval_ListComp]
  refine wpAny_comprehension_free (use:=none) rfl hs (closure_eq (S.frees I.ok)) S.kind (fun x hx hl=>by rw [S.names x hx,hl]) (thn (hi pins s σ H _ I h) fun v s1 h1=>thn h1 fun itv s2 h2=>?_)
  obtain ⟨it,fp,tn,J,H2,e,I2,T,st2,f2,R⟩:=h2
  subst e
  have lt2:∀ b ∈ fp,b < s2.heap.objs.size:=fun b hb=>by obtain ⟨o,e,_⟩:=T.obj _ _ st2 b hb; exact Heap.lt_size e
  have hD:H2 s2.heap.objs.size=none:=I2.fresh
  obtain ⟨W,⟨m0,w0⟩,turn⟩:=R s2.heap.objs.size hD
  have I3:Inv X pins σ (upd H2 s2.heap.objs.size (.lst [])) { s2 with heap:=s2.heap.push { cls := .type "list",data := .seq ([]:List Value).toArray },toks:=s2.toks }:=I2.lnew (t':=s2.toks) .nil (by simp)
  have f3:∀ b ∈ fp,FpOk X pins (upd H2 s2.heap.objs.size (.lst [])) b:=fun b hb=>⟨by rw [upd_ne (Nat.ne_of_lt (lt2 b hb))]; exact (f2 b hb).1,(f2 b hb).2⟩
  refine wpAny_newObj_type (wpAny_newBlock fun h₁ hns₁ hk hcl₁=>?_)
  have lt3:∀ b ∈ fp,b < (s2.heap.push { cls := .type "list",data := .seq ([]:List Value).toArray }).objs.size:=fun b hb=>by rw [Heap.size_push]; exact Nat.lt_succ_of_lt (lt2 b hb)
  have I4:Inv (blk X N' scope (s2.heap.push { cls := .type "list",data := .seq ([]:List Value).toArray }).objs.size { s2 with heap:=s2.heap.push { cls := .type "list",data := .seq ([]:List Value).toArray },toks:=s2.toks } (upd H2 s2.heap.objs.size (.lst [])) fp pins) [] (capV n cap σ) (upd H2 s2.heap.objs.size (.lst [])) { s2 with heap:=h₁,toks:=s2.toks } :=
    blk_inv I3 S hc f3 lt3 (t1:=s2.toks) hns₁ hk hcl₁ (by simp [capV,hN]) (fun i x v e1 e2=>by
      unfold capV at e2
      by_cases hi:i < n
      · rw [List.getElem?_append_left (by simpa using hi),List.getElem?_replicate] at e2
        split at e2 <;> cases e2
      · rw [List.getElem?_append_right (by simpa using hi),List.length_replicate,List.getElem?_map] at e2
        cases ej:cap[i - n]? with
        | none=>rw [ej] at e2; cases e2
        | some j =>
          rw [ej] at e2
          obtain ⟨x',a1,a2,a3⟩:=hcap (i - n) j ej
          have:n + (i - n)=i:=by omega
          rw [this,e1] at a1
          cases a1
          refine ⟨a3,j,a2,?_⟩
          have e2:(σ[j]?).getD none=some v:=by simpa using e2
          cases q:σ[j]? with
          | none=>rw [q] at e2; cases e2
          | some z=>rw [q] at e2; have:z=some v:=e2; rw [this])
  have loop:codeAny (model X.prog X.w) X.A (.compLoop (.ListComp elt [⟨tg,iter,ifs,0⟩,g2] scope pos) 0 (.ref it) (.ref s2.heap.objs.size) (compEnvC scope (cellsFrom ((s2.heap.push { cls := .type "list",data := .seq ([]:List Value).toArray }).objs.size + 1) scope.names (clOf X.env.cells scope.names [])) (s2.heap.push { cls := .type "list",data := .seq ([]:List Value).toArray }).objs.size X.env))
      (compPost (model X.prog X.w) X.A X.xe none (EP X pins σ Q) (.ref s2.heap.objs.size) (s2.heap.push { cls := .type "list",data := .seq ([]:List Value).toArray }).objs.size) { s2 with heap:=h₁,toks:=s2.toks }:=by
    generalize hY:(blk X N' scope (s2.heap.push { cls := .type "list",data := .seq ([]:List Value).toArray }).objs.size { s2 with heap:=s2.heap.push { cls := .type "list",data := .seq ([]:List Value).toArray },toks:=s2.toks } (upd H2 s2.heap.objs.size (.lst [])) fp pins)=Y at I4
    have st4:tn 0 h₁:=T.keep _ _ _ st2 fun b hb o e=>hk b o (Heap.get?_push_of_some _ e)
    have stat:∀ {H':Hp},(∀ b ∈ fp,H' b=none)→∀ b ∈ fp,FpOk Y [] H' b:=fun hn b hb=>by
      subst hY
      obtain ⟨f0,f1,f2',f3',f4,f5⟩:=f3 b hb
      exact ⟨hn b hb,Nat.ne_of_lt (lt3 b hb),fun z=>(List.mem_cons.mp (I3.stkSub b z)).elim f1 f2', .inl hb,fun x c e=>(by
        rcases S.old I3 e with z | z
        · exact f4 x c z
        · exact Nat.ne_of_gt (Nat.lt_trans (lt3 b hb) z)),fun p hp=>f5 p (by simpa using hp)⟩
    have hgY:PG Y tg g:=hY ▸ hg _ _ _ _ _
    have htY:PTs Y ifs tt:=hY ▸ ht _ _ _ _ _
    have heY:PEm Y (emT (.ListComp elt [⟨tg,iter,ifs,0⟩,g2] scope pos) g2 (.ref s2.heap.objs.size) Y.env) (em s2.heap.objs.size):=by subst hY; exact he _ _ _ _ _ _
    have yp:Y.prog=X.prog:=by subst hY; rfl
    have yw:Y.w=X.w:=by subst hY; rfl
    have yK:Y.K=X.K:=by subst hY; rfl
    have yA:Y.A=X.A:=by subst hY; rfl
    have yc:Y.calm=true:=by subst hY; rfl
    have yx:Y.xe=fun _ _=>False:=by subst hY; rfl
    have ye:Y.env=compEnvC scope (cellsFrom ((s2.heap.push { cls := .type "list",data := .seq ([]:List Value).toArray }).objs.size + 1) scope.names (clOf X.env.cells scope.names [])) (s2.heap.push { cls := .type "list",data := .seq ([]:List Value).toArray }).objs.size X.env:=by subst hY; rfl
    rw [← ye]
    refine compLoop_em (emT (.ListComp elt [⟨tg,iter,ifs,0⟩,g2] scope pos) g2 (.ref s2.heap.objs.size) Y.env) (compTurn_2a h2) (fun n s' => ∃ i σ' H',Inv Y [] σ' H' s'∧tn i s'.heap∧(∀ b ∈ fp,H' b=none)∧W i n σ' H') ?_ m0 ⟨0,_,_,I4,st4,fun b hb=>(f3 b hb).1,w0⟩
    rintro n s3 ⟨i,σ3,H3,I5,st3,fr3,w3⟩
    rcases turn i n σ3 H3 w3 with ⟨stop,qn⟩ | ⟨go,N,hNN,step⟩
    · have d:=T.done Y yp yw yK yc i [] s3 σ3 H3 (fun _ _=>False) I5 (stat fr3) st3 stop
      rw [yA] at d
      refine thn d fun r s4 ⟨hr,I6⟩=>?_
      subst hr
      obtain ⟨m,hm,_⟩:=I6.loc
      rw [ye] at hm
      refine ⟨m,hm,fun h' hb=>⟨.ref s2.heap.objs.size,H3,?_,rfl,qn⟩⟩
      subst hY
      exact blk_back I3 f3 rfl I6 hb
    · have d:=T.item Y yp yw yK yc i [] s3 σ3 H3 (fun _ _=>False) I5 (stat fr3) st3 go
      rw [yA] at d
      refine thn d fun r s4 ⟨u,hr,h4⟩=>?_
      subst hr
      refine thn h4 fun _ s5 ⟨x,H5,I6,r5,y5,st5,fr5⟩=>?_
      have I6':=I6.pinned (stat fr5) (T.obj _ _ st5)
      have a:=hgY _ s5 σ3 H5 x u _ I6' r5 (step x H5 y5)
      rw [yp,yw,yA,yx] at a
      refine thn a fun _ s6 ⟨σ6,H6,I7,q6⟩=>?_
      have b:=htY _ s6 σ6 H6 _ I7 q6
      rw [yp,yw,yA,yx] at b
      refine thn b fun ok s7 ⟨H7,I8,q7⟩=>?_
      have again:∀ {s9:Shared} {σ9:L2.St} {H9:Hp},Inv Y ([] ++ pinsAt fp s5.heap) σ9 H9 s9→N σ9 H9→∃ m,m < n∧∃ i σ' H',Inv Y [] σ' H' s9∧tn i s9.heap∧(∀ b ∈ fp,H' b=none)∧W i m σ' H':=fun {s9 σ9 H9} I9 n9=>by
        obtain ⟨m',hm,w9⟩:=hNN σ9 H9 n9
        refine ⟨m',hm,i + 1,σ9,H9,I9.unpinned,T.keep _ _ _ st5 fun b hb o e=>(I9.pin (b,o) (List.mem_append_right _ (List.mem_append_right _ (mem_pinsAt hb e)))).1,fun b hb=>?_,w9⟩
        obtain ⟨o,e,d⟩:=T.obj _ _ st5 b hb
        exact (I9.pin (b,o) (List.mem_append_right _ (List.mem_append_right _ (mem_pinsAt hb e)))).2.1
      cases ok with
      | false=>exact iteF (again I8 (by simpa using q7))
      | true =>
        rw [if_pos rfl] at q7
        refine iteT ?_
        have c:=heY _ s7 σ6 H7 _ I8 q7
        rw [yp,yw,yA,yx] at c
        exact thn c fun _ s8 ⟨σ8,H8,I9,n9⟩=>again I9 n9
  exact codeAny_compStart_list loop (T.self _ 0 _ _ _ (T.keep _ _ _ st2 fun b hb o e=>hk b o (Heap.get?_push_of_some _ e)) loop)
end L2
namespace DL
open PySem PySem.Spec PyProof.Rows L2
def compDT (k:D→Th→Option Th) (ft:DT) (fe:DE):List D→Th→Option (List D × Th)
  | [],t=>some ([],t)
  | d :: ds,t=>(k d t).bind fun t1=>(ft t1).bind fun b=>if b then (fe t1).bind fun r=>(compDT k ft fe ds t1).map fun q=>(r.d :: q.1,q.2) else compDT k ft fe ds t1
def compD2 (k:D→Th→Option Th) (ft:DT) (fs2:DI) (k2:D→Th→Option Th) (ft2:DT) (fe:DE):List D→Th→Option (List D)
  | [],_=>some []
  | d :: ds,t=>(k d t).bind fun t1=>(ft t1).bind fun b=>if b then (fs2 t1).bind fun q=>(compDT k2 ft2 fe q.2 t1).bind fun p=>(compD2 k ft fs2 k2 ft2 fe ds p.2).map fun xs=>p.1 ++ xs else compD2 k ft fs2 k2 ft2 fe ds t1
def dComp2 (n:Nat) (cap:List Nat) (fs:DI) (k:D→Th→Option Th) (ft:DT) (fs2:DI) (k2:D→Th→Option Th) (ft2:DT) (fe:DE):DE:=fun t=>(fs t).bind fun q=>(capD t cap).bind fun c =>
  (compD2 k ft fs2 k2 ft2 fe q.2 (List.replicate n Sl.no ++ c.2.map Sl.val)).bind fun xs=>if xs.length ≤ 50000 && flats xs then some (.nw xs) else none
theorem tcomp2_of {X:Cx} {F:List Addr} {n:Nat} {cap:List Nat} {fs fs2:DI} {g g2:TG} {kt kt2:D→Th→Option Th} {ft ft2:DT} {fe:DE} (hk:∀ F',TgOk X.K F' g kt) (hk2:∀ F',TgOk X.K F' g2 kt2) {σ:L2.St} {H:Hp} {Q:VK} (h:dE X.K F (dComp2 n cap fs kt ft fs2 kt2 ft2 fe) σ H Q) :
    tCompG n cap (dI X.K F fs) g (fun σ H Q => ∃ F',dT X.K F' ft σ H Q) (tInner (fun σ H R => ∃ F',dI X.K F' fs2 σ H R) g2 (fun σ H Q => ∃ F',dT X.K F' ft2 σ H Q) (fun σ H Q => ∃ F',dE X.K F' fe σ H Q)) σ H Q:=by
  obtain ⟨A,t,r,R,e,h⟩:=h
  unfold dComp2 at e
  cases e1:fs t with
  | none=>rw [e1] at e; cases e
  | some q =>
    obtain ⟨b,ds⟩:=q
    cases e2:capD t cap with
    | none=>rw [e1,e2] at e; cases e
    | some q2 =>
      obtain ⟨c,caps⟩:=q2
      rw [e1,e2] at e
      simp only [Option.bind_some] at e
      cases e3:compD2 kt ft fs2 kt2 ft2 fe ds (List.replicate n Sl.no ++ caps.map Sl.val) with
      | none=>rw [e3] at e; cases e
      | some xs =>
        rw [e3] at e
        simp only [Option.bind_some] at e
        split at e
        case isFalse=>cases e
        rename_i ok
        rw [Bool.and_eq_true,decide_eq_true_eq] at ok
        cases e
        obtain ⟨cvs,cv1,cv2⟩:=capD_rep R e2
        obtain ⟨F',F'def⟩:∃ F',F'=hidF (b && c) A F:=⟨_,rfl⟩
        have subF:∀ x ∈ F',x ∈ A ++ F:=fun x hx=>by
          rw [F'def] at hx
          unfold hidF at hx
          split at hx
          · exact hx
          · exact List.mem_append_right _ hx
        have lessB:∀ H:Hp,Same (hide (hidF b A F) H) (hide F' H):=fun H=>hide_less H fun x hx=>by
          rw [F'def] at hx
          cases b <;> cases c <;> simp [hidF] at hx ⊢ <;> first | exact hx | exact .inr hx | (rcases hx with z | z <;> simp [z])
        have lessC:∀ H:Hp,Same (hide (hidF c A F) H) (hide F' H):=fun H=>hide_less H fun x hx=>by
          rw [F'def] at hx
          cases b <;> cases c <;> simp [hidF] at hx ⊢ <;> first | exact hx | exact .inr hx | (rcases hx with z | z <;> simp [z])
        refine ⟨A,t,b,ds,R,e1,fun J H1 Good gs src gd Dd hD=>?_⟩
        have H1A:Lists H1 (A ++ F):=R.mu.mono gs
        have st0:Same (hide F' H1) (hide (Dd :: F') (upd H1 Dd (.lst []))):=hide_upd hD
        refine ⟨fun i m σ' H'=>i + m=ds.length∧∃ th acc rest vs,RS X.K (Dd :: F') H' [] th σ'∧compD2 kt ft fs2 kt2 ft2 fe (ds.drop i) th=some rest∧acc ++ rest=xs∧H' Dd=some (.lst vs)∧Reps X.K (hide (Dd :: F') H') acc vs∧Same H1 H'∧Good (Dd :: F') H',
          ⟨ds.length,by omega,_,[],xs,[],⟨?_,List.nodup_nil,fun p hp=>(by cases hp),?_⟩,by simpa using e3,rfl,upd_same, .nil,upd_sameH hD,src.keep _ _ _ _ gd (fun b o z=>st0 _ _ (lessB _ _ _ z))⟩,?_⟩
        · intro q hq
          have hq:q ∈ Dd :: F':=hq
          rcases List.mem_cons.mp hq with z | z
          · exact ⟨mL [],by rw [z]; exact upd_same⟩
          · obtain ⟨us,w⟩:=H1A q (subF q z)
            exact ⟨us,(upd_sameH hD) _ _ w⟩
        · unfold capV
          rw [cv1]
          exact RSl.noVals (Reps.mono (fun b o z=>st0 _ _ (lessC H1 _ _ (same_hide gs _ _ z))) cv2) n
        · rintro i m σ' H' ⟨hm,th,acc,rest,vs,RR,ec,ex,hv,hr,sm,gg⟩
          cases m with
          | zero =>
            have z:i=ds.length:=by omega
            subst z
            rw [List.drop_length] at ec
            cases ec
            rw [List.append_nil] at ex
            subst ex
            refine .inl ⟨src.stop _ _ gg,h _ H' (gs.trans sm) ⟨Dd,vs,rfl,Same.free gs hD,hv,?_⟩⟩
            refine Reps.hid (P:=Dd :: (A ++ F)) (fun q hq=>?_) ok.2 (Reps.mono (hide_sub _ _) hr)
            rcases List.mem_cons.mp hq with z | z
            · exact ⟨mL vs,by rw [z]; exact hv⟩
            · obtain ⟨us,w⟩:=H1A q z
              exact ⟨us,sm _ _ w⟩
          | succ m =>
            have hil:i < ds.length:=by omega
            refine .inr ⟨src.go _ _ i gg hil,fun σ' H'=>i + 1 + m=ds.length∧∃ th acc rest vs,RS X.K (Dd :: F') H' [] th σ'∧compD2 kt ft fs2 kt2 ft2 fe (ds.drop (i + 1)) th=some rest∧acc ++ rest=xs∧H' Dd=some (.lst vs)∧Reps X.K (hide (Dd :: F') H') acc vs∧Same H1 H'∧Good (Dd :: F') H',
              fun σ' H' q=>⟨m,Nat.lt_succ_self m,q⟩,fun x H2 y=>?_⟩
            obtain ⟨gs2,d,hd,rd⟩:=src.yld _ _ i x H2 gg RR.mu y hil
            have ed:ds.drop i=d :: ds.drop (i + 1):=by
              have hd':ds[i]=d:=by
                rw [List.getElem?_eq_getElem hil] at hd
                exact Option.some.inj hd
              rw [← hd']
              exact List.drop_eq_getElem_cons hil
            rw [ed] at ec
            unfold compD2 at ec
            cases k1:kt d th with
            | none=>rw [k1] at ec; cases ec
            | some t1 =>
              rw [k1] at ec
              simp only [Option.bind_some] at ec
              refine hk (Dd :: F') σ' H2 [] th t1 d x _ (RR.grow gs2) rd k1 fun σ2 A2 gr2 R2=>?_
              have A20:=none_owned R2 gr2
              subst A20
              cases k2:ft t1 with
              | none=>rw [k2] at ec; cases ec
              | some bb =>
                rw [k2] at ec
                simp only [Option.bind_some] at ec
                refine ⟨Dd :: F',[],t1,bb,R2,k2,fun H3 gs3=>?_⟩
                cases bb with
                | false =>
                  refine iteF ⟨by omega,t1,acc,rest,vs,R2.grow gs3,by simpa using ec,ex,gs3 _ _ (gs2 _ _ hv),Reps.mono (same_hide (gs2.trans gs3)) hr,(sm.trans gs2).trans gs3,src.keep _ _ _ _ gg (same_hide (gs2.trans gs3))⟩
                | true =>
                  simp only [if_true] at ec
                  cases k3:fs2 t1 with
                  | none=>rw [k3] at ec; cases ec
                  | some q2 =>
                    obtain ⟨b2,ds2⟩:=q2
                    rw [k3] at ec
                    simp only [Option.bind_some] at ec
                    cases k4:compDT kt2 ft2 fe ds2 t1 with
                    | none=>rw [k4] at ec; cases ec
                    | some pp =>
                      obtain ⟨xs1,tE⟩:=pp
                      rw [k4] at ec
                      simp only [Option.bind_some] at ec
                      cases k5:compD2 kt ft fs2 kt2 ft2 fe (ds.drop (i + 1)) tE with
                      | none=>rw [k5] at ec; cases ec
                      | some ys =>
                        rw [k5] at ec
                        cases ec
                        refine iteT ⟨Dd :: F',[],t1,b2,ds2,R2.grow gs3,k3,fun J2 H4 Good2 gs4 src2 gd2=>?_⟩
                        have gd2:Good2 (Dd :: F') H4:=by
                          have e9:hidF b2 [] (Dd :: F')=Dd :: F':=by unfold hidF; split <;> simp
                          rw [e9] at gd2; exact gd2
                        have s4:=(gs2.trans gs3).trans gs4
                        refine ⟨fun j k σj Hj=>j + k=ds2.length∧∃ tj aj rj vj,RS X.K (Dd :: F') Hj [] tj σj∧compDT kt2 ft2 fe (ds2.drop j) tj=some (rj,tE)∧aj ++ (rj ++ ys)=xs∧Hj Dd=some (.lst vj)∧Reps X.K (hide (Dd :: F') Hj) aj vj∧Same H1 Hj∧Good (Dd :: F') Hj∧Good2 (Dd :: F') Hj,
                          ⟨ds2.length,by omega,t1,acc,xs1,vs,(R2.grow gs3).grow gs4,by simpa using k4,ex,s4 _ _ hv,Reps.mono (same_hide s4) hr,sm.trans s4,src.keep _ _ _ _ gg (same_hide s4),gd2⟩,?_⟩
                        rintro j k σj Hj ⟨hjk,tj,aj,rj,vj,Rj,ej,exj,hvj,hrj,smj,ggj,gg2⟩
                        cases k with
                        | zero =>
                          have z:j=ds2.length:=by omega
                          subst z
                          rw [List.drop_length] at ej
                          cases ej
                          exact .inl ⟨src2.stop _ _ gg2,by omega,_,aj,ys,vj,Rj,k5,by simpa using exj,hvj,hrj,smj,ggj⟩
                        | succ k =>
                          have hjl:j < ds2.length:=by omega
                          refine .inr ⟨src2.go _ _ j gg2 hjl,fun σj Hj=>j + 1 + k=ds2.length∧∃ tj aj rj vj,RS X.K (Dd :: F') Hj [] tj σj∧compDT kt2 ft2 fe (ds2.drop (j + 1)) tj=some (rj,tE)∧aj ++ (rj ++ ys)=xs∧Hj Dd=some (.lst vj)∧Reps X.K (hide (Dd :: F') Hj) aj vj∧Same H1 Hj∧Good (Dd :: F') Hj∧Good2 (Dd :: F') Hj,
                            fun σ' H' q=>⟨k,Nat.lt_succ_self k,q⟩,fun xj H5 yj=>?_⟩
                          obtain ⟨gs5,dj,hdj,rdj⟩:=src2.yld _ _ j xj H5 gg2 Rj.mu yj hjl
                          have edj:ds2.drop j=dj :: ds2.drop (j + 1):=by
                            have hd':ds2[j]=dj:=by
                              rw [List.getElem?_eq_getElem hjl] at hdj
                              exact Option.some.inj hdj
                            rw [← hd']
                            exact List.drop_eq_getElem_cons hjl
                          rw [edj] at ej
                          unfold compDT at ej
                          cases w1:kt2 dj tj with
                          | none=>rw [w1] at ej; cases ej
                          | some t6 =>
                            rw [w1] at ej
                            simp only [Option.bind_some] at ej
                            refine hk2 (Dd :: F') σj H5 [] tj t6 dj xj _ (Rj.grow gs5) rdj w1 fun σ6 A6 gr6 R6=>?_
                            have A60:=none_owned R6 gr6
                            subst A60
                            cases w2:ft2 t6 with
                            | none=>rw [w2] at ej; cases ej
                            | some b6 =>
                              rw [w2] at ej
                              simp only [Option.bind_some] at ej
                              refine ⟨Dd :: F',[],t6,b6,R6,w2,fun H6 gs6=>?_⟩
                              cases b6 with
                              | false =>
                                exact iteF ⟨by omega,t6,aj,rj,vj,R6.grow gs6,by simpa using ej,exj,gs6 _ _ (gs5 _ _ hvj),Reps.mono (same_hide (gs5.trans gs6)) hrj,(smj.trans gs5).trans gs6,src.keep _ _ _ _ ggj (same_hide (gs5.trans gs6)),src2.keep _ _ _ _ gg2 (same_hide (gs5.trans gs6))⟩
                              | true =>
                                simp only [if_true] at ej
                                cases w3:fe t6 with
                                | none=>rw [w3] at ej; cases ej
                                | some re =>
                                  rw [w3] at ej
                                  simp only [Option.bind_some] at ej
                                  cases w4:compDT kt2 ft2 fe (ds2.drop (j + 1)) t6 with
                                  | none=>rw [w4] at ej; cases ej
                                  | some qq =>
                                    obtain ⟨zs,tz⟩:=qq
                                    rw [w4] at ej
                                    cases ej
                                    refine iteT ⟨Dd :: F',[],t6,re,R6.grow gs6,w3,fun v H7 gs7 q7=>⟨vj,gs7 _ _ (gs6 _ _ (gs5 _ _ hvj)),?_,?_⟩⟩
                                    · have l1:=hrj.length
                                      have l2:aj.length + (zs.length + 1 + ys.length)=xs.length:=by rw [← exj]; simp; omega
                                      exact Nat.lt_of_lt_of_le (show vj.length < 50000 by omega) (by rw [sizeLine_eq]; decide)
                                    · have s7:=(gs5.trans gs6).trans gs7
                                      have hu:Same (hide (Dd :: F') H7) (hide (Dd :: F') (upd H7 Dd (.lst (vj ++ [v])))):=hide_same_upd (List.mem_cons_self ..)
                                      have rv:=q7.cleanF ((R6.grow gs6).mu)
                                      refine ⟨by omega,t6,aj ++ [re.d],zs,vj ++ [v],RS.updF ((R6.grow gs6).grow gs7) (List.mem_cons_self ..),w4,by simpa using exj,upd_same,?_,?_,?_,?_⟩
                                      · exact (Reps.mono (fun b o z=>hu _ _ (same_hide s7 _ _ z)) hrj).app (Reps.one (Rep.mono hu rv))
                                      · exact fun b o z=>by
                                          rw [upd_ne (fun w=>by rw [w,hD] at z; cases z)]
                                          exact s7 _ _ (smj _ _ z)
                                      · exact src.keep _ _ _ _ ggj (fun b o z=>hu _ _ (same_hide s7 _ _ z))
                                      · exact src2.keep _ _ _ _ gg2 (fun b o z=>hu _ _ (same_hide s7 _ _ z))
theorem ped_compr2 {X:Cx} {F:List Addr} {elt tg iter tg2 iter2:Expr} {ifs ifs2:List Expr} {scope:Scope} {pos:Pos} {fs fs2:DI} {g g2:TG} {kt kt2:D→Th→Option Th} {ft ft2:DT} {fe:DE} (n:Nat) (cap:List Nat) (N':List Str) (hc:X.calm=true) (hi:PI X tg iter (dI X.K F fs))
    (hg:∀ C s₃ H₃ fp pins,PG (blk X N' scope C s₃ H₃ fp pins) tg g) (hk:∀ F',TgOk X.K F' g kt) (ht:∀ C s₃ H₃ fp pins F',PTs (blk X N' scope C s₃ H₃ fp pins) ifs (dT X.K F' ft))
    (hi2:∀ C s₃ H₃ fp pins F',PI (blk X N' scope C s₃ H₃ fp pins) tg2 iter2 (dI X.K F' fs2)) (hg2:∀ C s₃ H₃ fp pins,PG (blk X N' scope C s₃ H₃ fp pins) tg2 g2) (hk2:∀ F',TgOk X.K F' g2 kt2) (ht2:∀ C s₃ H₃ fp pins F',PTs (blk X N' scope C s₃ H₃ fp pins) ifs2 (dT X.K F' ft2))
    (he:∀ C s₃ H₃ fp pins F',PE (blk X N' scope C s₃ H₃ fp pins) elt (dE X.K F' fe))
    (hkd:scope.kind = .function:=by rfl) (hcs:compOk scope.names X.env.kindOf=true:=by rfl) (hN:N'.length=n + cap.length:=by rfl) (hcap:capOk N' X.N n scope.names 0 cap=true:=by rfl)
    (hs:∀ x,foldedSetIterable iter X.env x=pure x:=by intro _; rfl) (hs2:∀ C s₃ H₃ fp pins x,foldedSetIterable iter2 (blk X N' scope C s₃ H₃ fp pins).env x=pure x:=by intros; rfl) :
    PE X (.ListComp elt [⟨tg,iter,ifs,0⟩,⟨tg2,iter2,ifs2,0⟩] scope pos) (dE X.K F (dComp2 n cap fs kt ft fs2 kt2 ft2 fe)) :=
  PE.imp (pe_compG (g:=g) (compSc hkd hcs) hc hi hN (fun k j e=>by simpa using capOk_of hcap k j e) hg (fun C s₃ H₃ fp pins pins' s σ H Q I ⟨F',q⟩=>ht C s₃ H₃ fp pins F' pins' s σ H Q I q)
    (fun C s₃ H₃ fp pins D=>pem_inner rfl rfl (fun pins' s σ H R I ⟨F',q⟩=>hi2 C s₃ H₃ fp pins F' pins' s σ H R I q) (hg2 C s₃ H₃ fp pins) (fun pins' s σ H Q I ⟨F',q⟩=>ht2 C s₃ H₃ fp pins F' pins' s σ H Q I q) (fun pins' s σ H Q I ⟨F',q⟩=>he C s₃ H₃ fp pins F' pins' s σ H Q I q) (hs2 C s₃ H₃ fp pins)) rfl hs) fun _ _ _ h=>tcomp2_of hk hk2 h
section
variable {X:Cx} {F:List Addr} {a b c:Expr} {es:List Expr} {fa fb fc:DE} {pos:Pos}
def kList:List Ev→Option Ev:=fun rs=>match rs with
  | [r]=>(match r.d with
    | .lst ds=>if r.ok || flats ds then some (.nw ds) else none
    | _=>none)
  | _=>none
theorem cd_list:CallD X F (.type "list") kList:=CallD.of call_list_of fun H0 H A xs rs e Q m g q ek hq=>by
  unfold kList at ek
  split at ek
  · rename_i r
    cases q with
    | cons q1 q2 =>
      cases q2
      split at ek
      · rename_i ds z
        split at ek
        case isFalse=>cases ek
        rename_i c
        cases ek
        obtain ⟨p,vs,rfl,h1,h2⟩:=q1.items m g z c
        exact ⟨p,vs,rfl, .inl h1,fun l hl=>hq _ _ (upd_sameH hl) ⟨l,vs,rfl,Same.free g hl,upd_same,Reps.mono (hide_upd hl) h2⟩⟩
      · cases ek
  · cases ek
def k2I (f:Int→Int→Int):List Ev→Option Ev:=fun rs=>match rs with
  | [r1,r2]=>(match r1.d,r2.d with
    | .int i, .int j=>some (.cl (.int (f i j)))
    | _,_=>none)
  | _=>none
theorem cd_2I {v:Value} {f:Int→Int→Int} (h:CallR X v (fun xs H Q => ∃ i j,xs=[.int i, .int j]∧Q (.int (f i j)) H)):CallD X F v (k2I f):=CallD.of h fun H0 H A xs rs e Q m g q ek hq=>by
  unfold k2I at ek
  split at ek
  · rename_i r1 r2
    cases q with
    | cons q1 q' =>
      cases q' with
      | cons q2 q3 =>
        cases q3
        split at ek
        · rename_i i j z1 z2
          cases ek
          have p1:=q1.full
          have p2:=q2.full
          rw [z1] at p1; rw [z2] at p2
          cases rep_int p1; cases rep_int p2
          exact ⟨i,j,rfl,hq _ H (Same.refl H) (.int _)⟩
        · cases ek
  · cases ek
theorem cd_min (hc:X.calm=true):CallD X F (.builtin "min") (k2I fun i j=>if j < i then j else i):=cd_2I (call_min2 hc)
theorem cd_max (hc:X.calm=true):CallD X F (.builtin "max") (k2I fun i j=>if j > i then j else i):=cd_2I (call_max2 hc)
end
end DL
namespace DL
open PySem PySem.Spec PyProof.Rows L2
section
variable {X:Cx} {F:List Addr} {a b c:Expr} {es:List Expr} {fa fb fc:DE} {g:DS} {pos:Pos} {tg:Expr} {gt:TG} {kt:D→Th→Option Th}
def dCh (k k':Ev→Ev→Option Ev) (fa fb fc:DE):DT:=fun t=>(fa t).bind fun r1=>(fb t).bind fun r2=>(k r1 r2).bind fun r=>match r.d with
  | .bl true=>(fc t).bind fun r3=>(k' r2 r3).bind fun r'=>match r'.d with
    | .bl z=>some z
    | _=>none
  | .bl false=>some false
  | _=>none
def rK (X:Cx) (F:List Addr) (k:Ev→Ev→Option Ev) (A:List Addr) (H0:Hp):R2:=fun x y H Q=>Lists H0 (A ++ F)∧Same H0 H∧∃ r1 r2 r,RepEv X.K F A H0 H r1 x∧RepEv X.K F A H0 H r2 y∧k r1 r2=some r∧∀ z H',Same H H'→RepEv X.K F A H0 H' r z→Q z H'
theorem OpD.toR {f:Value→Value→Sem Value} {k:Ev→Ev→Option Ev} (h:OpD X F f k) (A:List Addr) (H0:Hp):OpR X f (rK X F k A H0) :=
  fun pins s σ H x y v u Q I rx ry ⟨m,gs,r1,r2,r,q1,q2,e,hq⟩=>h pins s σ H0 H A x y v u Q r1 r2 r I m gs rx ry q1 q2 e hq
end
end DL
namespace DL
open PySem PySem.Spec PyProof.Rows L2
def intsD:List D→Option (List Int)
  | []=>some []
  | .int i :: r=>(intsD r).map fun ns=>i :: ns
  | _ :: _=>none
theorem intsD_eq:∀ {ds:List D} {ns:List Int},intsD ds=some ns→ds=ns.map D.int
  | [],ns,e=>by cases e; rfl
  | .int i :: r,ns,e=>by
    unfold intsD at e
    cases e1:intsD r with
    | none=>rw [e1] at e; cases e
    | some m=>rw [e1] at e; cases e; rw [intsD_eq e1]; rfl
  | .non :: r,ns,e=>by cases e
  | .bl _ :: r,ns,e=>by cases e
  | .str _ :: r,ns,e=>by cases e
  | .tup _ :: r,ns,e=>by cases e
  | .lst _ :: r,ns,e=>by cases e
theorem intsD_map (ns:List Int):intsD (ns.map D.int)=some ns:=by
  induction ns with
  | nil=>rfl
  | cons n r ih=>simp [intsD,ih]
theorem reps_ints {K:PySem.W.Frag} {H:Hp}:∀ {ns:List Int} {vs:List V},Reps K H (ns.map D.int) vs→vs=ns.map V.int
  | [],_, .nil=>rfl
  | n :: r,_, .cons h q=>by cases rep_int h; rw [reps_ints q]; rfl
section
variable {X:Cx} {F:List Addr} {a b c:Expr} {es:List Expr} {fa fb fc:DE} {pos:Pos}
theorem call_sum (hc:X.calm=true):CallR X (.builtin "sum") (fun xs H Q => ∃ (p:Addr) (ns:List Int),xs=[.ref p]∧SqL X.K H p (ns.map V.int)∧Q (.int ns.sum) H):=by
  intro pins s σ H xs us Q I r h
  obtain ⟨p,ns,rfl,hs,q⟩:=h
  obtain ⟨u,rfl,ru⟩:=vals1 r
  cases ru
  obtain ⟨its,rv,pl,_⟩:=I.list hs
  have hi:IntsAre its ns:=intsAre_of rv
  obtain ⟨ys,e⟩:=hi.allInts.items
  have hl:s.heap.IsList p (intItems ys):=by rw [← e]; exact PlainL.isL pl
  refine sum_intListG (I.ok.hd hc) hl fun h' tk t' hk=>⟨.int _,H,I.kept (t':=tk) hk,⟨t',rfl⟩,?_⟩
  have en:=nums_intItems ys
  rw [preSum_eq,List.take_of_length_le (by simp)]
  have e2:numsOf (intItems ys).toList=ns:=by rw [← e]; exact hi.numsOf
  rw [← nums_intItems,e2]
  exact q
def kSum:List Ev→Option Ev:=fun rs=>match rs with
  | [r]=>(match r.d with
    | .lst ds=>(intsD ds).map fun ns => .cl (.int ns.sum)
    | _=>none)
  | _=>none
theorem cd_sum (hc:X.calm=true):CallD X F (.builtin "sum") kSum:=CallD.of (call_sum hc) fun H0 H A xs rs e Q m g q ek hq=>by
  unfold kSum at ek
  split at ek
  · rename_i r
    cases q with
    | cons q1 q2 =>
      cases q2
      split at ek
      · rename_i ds z
        cases e1:intsD ds with
        | none=>rw [e1] at ek; cases ek
        | some ns =>
          rw [e1] at ek
          cases ek
          have p:=q1.full
          rw [z,intsD_eq e1] at p
          cases p with
          | lst h1 h2 =>
            rw [reps_ints h2] at h1
            exact ⟨_,ns,rfl,h1,hq _ H (Same.refl H) (.int _)⟩
      · cases ek
  · cases ek
end
end DL
namespace DL
open PySem PySem.Spec PyProof.Rows L2
theorem eqD_int (i j:Int):eqD (.int i) (.int j)=decide (i=j):=by
  rw [Bool.eq_iff_iff,eqD_true]; simp
theorem sm_iff {i:Int}:sm i=true ↔ i.natAbs < bnd:=by simp [sm]
theorem sm_lt {i:Int} (h:i.natAbs < 2 ^ 256):sm i=true:=sm_iff.mpr (Nat.lt_of_lt_of_le h (by unfold bnd; exact Nat.pow_le_pow_right (by decide) (by decide)))
theorem sm_of {i:Int} (h1 : -10000000000000000000000000000000000000000000000000000000000000000000000000000 < i) (h2:i < 10000000000000000000000000000000000000000000000000000000000000000000000000000):sm i=true:=by
  apply sm_lt
  have:(2:Nat) ^ 256=115792089237316195423570985008687907853269984665640564039457584007913129639936:=by decide
  omega
theorem fmod_pos {a b:Int} (h:0 < b):0 ≤ a.fmod b∧a.fmod b < b:=by
  rw [Int.fmod_eq_emod_of_nonneg a (by omega)]
  exact ⟨Int.emod_nonneg a (by omega),Int.emod_lt_of_pos a h⟩
theorem eqD_refl (d:D):eqD d d=true:=eqD_true.mpr rfl
theorem seq_nx {g1 g2:DS} {t t':Th} (h:g1 t=some (.nx t')):dSeq g1 g2 t=g2 t':=by simp [dSeq,h]
theorem seq_rt {g1 g2:DS} {t:Th} {r:Ev} (h:g1 t=some (.rt r)):dSeq g1 g2 t=some (.rt r):=by simp [dSeq,h]
theorem RepDs.length {K:PySem.W.Frag} {H0 H:Hp}:∀ {ds:List D} {vs:List V} {B:List Addr},RepDs K H0 H ds vs B→vs.length=ds.length
  | _,_,_, .nil=>rfl
  | _,_,_, .cons _ r=>by simp [RepDs.length r]
theorem RepDs.focus {K:PySem.W.Frag} {H0 H:Hp}:∀ {ds:List D} {vs:List V} {B:List Addr},RepDs K H0 H ds vs B→∀ {j:Nat} {d:D},ds[j]?=some d→∃ v B1,vs[j]?=some v∧RepD K H0 H d v B1∧(∀ b ∈ B1,b ∈ B)∧(B.Nodup→B1.Nodup) ∧
    ∀ H0' H' d2 B2,Same H0 H0'→RepD K H0' H' d2 v B2→B2.Sublist B1→(∀ q ∈ B,q ∉ B1→∀ o,H q=some o→H' q=some o)→B.Nodup→∃ B',RepDs K H0' H' (ds.set j d2) vs B'∧B'.Sublist B
  | _,_,_, .nil,j,d,e=>by simp at e
  | _,_,_, .cons (v:=v) (B:=B) (C:=C) h r,0,d,e=>by
    simp at e; subst e
    refine ⟨v,B,rfl,h,fun b hb=>List.mem_append_left _ hb,fun n=>(List.nodup_append.mp n).1,fun H0' H' d2 B2 s q sb k nd=>⟨B2 ++ C, .cons q (RepDs.mono s r fun p hp o w=>?_),List.Sublist.append sb (List.Sublist.refl _)⟩⟩
    exact k p (List.mem_append_right _ hp) (fun z=>(List.nodup_append.mp nd).2.2 p z p hp rfl) o w
  | _,_,_, .cons (v:=v) (B:=B) (C:=C) h r,j + 1,d,e=>by
    obtain ⟨v1,B1,a1,a2,a3,a5,a4⟩:=RepDs.focus r (j:=j) (d:=d) (by simpa using e)
    refine ⟨v1,B1,by simpa using a1,a2,fun b hb=>List.mem_append_right _ (a3 b hb),fun n=>a5 (List.nodup_append.mp n).2.1,fun H0' H' d2 B2 s q sb k nd=>?_⟩
    have n:=List.nodup_append.mp nd
    obtain ⟨B',b1,b2⟩:=a4 H0' H' d2 B2 s q sb (fun q hq=>k q (List.mem_append_right _ hq)) n.2.1
    refine ⟨B ++ B', .cons (RepD.mono s h fun p hp o w=>k p (List.mem_append_left _ hp) (fun z=>n.2.2 p hp p (a3 p z) rfl) o w) b1,List.Sublist.append (List.Sublist.refl _) b2⟩
def getP:D→List Int→Option D
  | d,[]=>some d
  | .tup ds,n :: ns=>(atI ds n).bind fun x=>getP x ns
  | .lst ds,n :: ns=>(atI ds n).bind fun x=>getP x ns
  | _,_ :: _=>none
def putP:D→List Int→D→Option D
  | _,[],e=>some e
  | .tup ds,n :: ns,e=>(ixN ds.length n).bind fun j=>(ds[j]?).bind fun x=>(putP x ns e).map fun y => .tup (ds.set j y)
  | .lst ds,n :: ns,e=>(ixN ds.length n).bind fun j=>(ds[j]?).bind fun x=>(putP x ns e).map fun y => .lst (ds.set j y)
  | _,_ :: _,_=>none
def Reach (K:PySem.W.Frag) (H:Hp):V→List Int→V→Prop
  | v,[],w=>v=w
  | v,n :: ns,w => ∃ p vs x,v = .ref p∧(SqL K H p vs ∨ SqT K H p vs)∧atI vs n=some x∧Reach K H x ns w
theorem flats_get:∀ {ds:List D} {j:Nat} {d:D},flats ds=true→ds[j]?=some d→flat d=true
  | [],j,d,_,e=>by simp at e
  | x :: xs,0,d,f,e=>by simp [flats] at f; simp at e; subst e; exact f.1
  | x :: xs,j + 1,d,f,e=>by simp [flats] at f; exact flats_get f.2 (by simpa using e)
theorem flat_at {ds:List D} {n:Int} {d:D} (f:flats ds=true) (e:atI ds n=some d):flat d=true:=by
  unfold L2.atI at e
  cases e1:ixN ds.length n with
  | none=>rw [e1] at e; cases e
  | some j=>rw [e1] at e; exact flats_get f e
theorem flat_getP:∀ (ns:List Int) {d d1:D},flat d=true→getP d ns=some d1→flat d1=true
  | [],d,d1,f,e=>by cases e; exact f
  | n :: ns, .tup ds,d1,f,e=>by
    simp only [getP] at e
    cases e1:atI ds n with
    | none=>rw [e1] at e; cases e
    | some x=>rw [e1] at e; exact flat_getP ns (flat_at (by simpa [flat] using f) e1) e
  | n :: ns, .lst ds,d1,f,e=>by simp [flat] at f
  | n :: ns, .non,d1,f,e=>by cases e
  | n :: ns, .bl _,d1,f,e=>by cases e
  | n :: ns, .int _,d1,f,e=>by cases e
  | n :: ns, .str _,d1,f,e=>by cases e
def Fin (K:PySem.W.Frag) (H0 H:Hp) (d:D) (v:V) (B:List Addr) (ns:List Int) (p:Addr) (B1:List Addr):Prop :=
  ∀ H0' H' es ws B2 d2,Same H0 H0'→H' p=some (.lst ws)→RepDs K H0' H' es ws B2→B2.Sublist B1→putP d ns (.lst es)=some d2→(∀ q ∈ B,q ≠ p→∀ o,H q=some o→H' q=some o)→B.Nodup→∃ B',RepD K H0' H' d2 v B'∧B'.Sublist B
theorem atI_of {α:Type} {xs:List α} {n:Int} {x:α} (e:atI xs n=some x):∃ j,ixN xs.length n=some j∧xs[j]?=some x:=by
  unfold L2.atI at e
  cases e1:ixN xs.length n with
  | none=>rw [e1] at e; cases e
  | some j=>rw [e1] at e; exact ⟨j,rfl,e⟩
theorem RepD.focus {K:PySem.W.Frag} {H0 H:Hp} (hs:Same H0 H):∀ (ns:List Int) {d:D} {v:V} {B:List Addr} {ds1:List D},RepD K H0 H d v B→B.Nodup→getP d ns=some (.lst ds1) →
    ∃ p vs1 B1,Reach K H v ns (.ref p)∧H p=some (.lst vs1)∧RepDs K H0 H ds1 vs1 B1∧p ∈ B∧(∀ b ∈ B1,b ∈ B)∧p ∉ B1∧Fin K H0 H d v B ns p B1
  | [],d,v,B,ds1,h,nd,e=>by
    cases e
    cases h with
    | flat f r=>simp [DL.flat] at f
    | @lst _ p vs C h r =>
      refine ⟨p,vs,C,rfl,h,r,List.mem_cons_self ..,fun b hb=>List.mem_cons_of_mem _ hb,(List.nodup_cons.mp nd).1,fun H0' H' es ws B2 d2 s e1 e2 sb e3 k nd=>?_⟩
      cases e3
      exact ⟨p :: B2, .lst e1 e2,sb.cons₂ _⟩
  | n :: ns,d,v,B,ds1,h,nd,e=>by
    cases h with
    | flat f r=>exact absurd (flat_getP (n :: ns) f e) (by simp [DL.flat])
    | dct _ h r=>simp [getP] at e
    | pdc h=>simp [getP] at e
    | @tup ds p0 vs C h r =>
      simp only [getP] at e
      cases e1:atI ds n with
      | none=>rw [e1] at e; cases e
      | some x =>
        rw [e1] at e
        obtain ⟨j,j1,j2⟩:=atI_of e1
        obtain ⟨v1,B1,a1,a2,a3,a5,a4⟩:=r.focus j2
        obtain ⟨p,vs1,B2,b1,b2,b3,b4,b5,b6,b7⟩:=RepD.focus hs ns a2 (a5 nd) e
        have ea:atI vs n=some v1:=by unfold L2.atI; rw [r.length,j1]; exact a1
        refine ⟨p,vs1,B2,⟨p0,vs,v1,rfl, .inr (SqT.mono hs h),ea,b1⟩,b2,b3,a3 p b4,fun b hb=>a3 b (b5 b hb),b6,fun H0' H' es ws B3 d2 s e1' e2 sb e3 k nd'=>?_⟩
        simp only [putP,j1,Option.bind_some,j2] at e3
        cases e4:putP x ns (.lst es) with
        | none=>rw [e4] at e3; cases e3
        | some y =>
          rw [e4] at e3
          cases e3
          obtain ⟨B',c1,c2⟩:=b7 H0' H' es ws B3 y s e1' e2 sb e4 (fun q hq=>k q (a3 q hq)) (a5 nd')
          obtain ⟨B'',c3,c4⟩:=a4 H0' H' y B' s c1 c2 (fun q hq nq=>k q hq fun z=>nq (z ▸ b4)) nd'
          exact ⟨B'', .tup (SqT.mono s h) c3,c4⟩
    | @lst ds p0 vs C h r =>
      simp only [getP] at e
      have n0:=List.nodup_cons.mp nd
      cases e1:atI ds n with
      | none=>rw [e1] at e; cases e
      | some x =>
        rw [e1] at e
        obtain ⟨j,j1,j2⟩:=atI_of e1
        obtain ⟨v1,B1,a1,a2,a3,a5,a4⟩:=r.focus j2
        obtain ⟨p,vs1,B2,b1,b2,b3,b4,b5,b6,b7⟩:=RepD.focus hs ns a2 (a5 n0.2) e
        have ea:atI vs n=some v1:=by unfold L2.atI; rw [r.length,j1]; exact a1
        refine ⟨p,vs1,B2,⟨p0,vs,v1,rfl, .inl (SqL.of h),ea,b1⟩,b2,b3,List.mem_cons_of_mem _ (a3 p b4),fun b hb=>List.mem_cons_of_mem _ (a3 b (b5 b hb)),b6,fun H0' H' es ws B3 d2 s e1' e2 sb e3 k nd'=>?_⟩
        simp only [putP,j1,Option.bind_some,j2] at e3
        cases e4:putP x ns (.lst es) with
        | none=>rw [e4] at e3; cases e3
        | some y =>
          rw [e4] at e3
          cases e3
          obtain ⟨B',c1,c2⟩:=b7 H0' H' es ws B3 y s e1' e2 sb e4 (fun q hq=>k q (List.mem_cons_of_mem _ (a3 q hq))) (a5 n0.2)
          obtain ⟨B'',c3,c4⟩:=a4 H0' H' y B' s c1 c2 (fun q hq nq=>k q (List.mem_cons_of_mem _ hq) fun z=>nq (z ▸ b4)) n0.2
          exact ⟨p0 :: B'', .lst (k p0 (List.mem_cons_self ..) (fun z=>n0.1 (z ▸ a3 p b4)) _ h) c3,c4.cons₂ _⟩
theorem RSl.focusDp {K:PySem.W.Frag} {H0 H:Hp}:∀ {t:Th} {σ:L2.St} {A:List Addr},RSl K H0 H t σ A→A.Nodup→∀ {i:Nat} {d:D},t[i]?=some (.dp d)→∃ v B,σ[i]?=some (some v)∧(∀ b ∈ B,b ∈ A)∧B.Nodup∧RepD K H0 H d v B ∧
    ∀ H0' H' d2 B2,Same H0 H0'→RepD K H0' H' d2 v B2→B2.Sublist B→(∀ q ∈ A,q ∉ B→∀ o,H q=some o→H' q=some o)→∃ A2,RSl K H0' H' (t.set i (.dp d2)) σ A2∧A2.Sublist A
  | _,_,_, .nil,n,i,d,e=>by simp at e
  | _,_,_, .no r,n,0,d,e=>by simp at e
  | _,_,_, .no r,n,i + 1,d,e=>by
    obtain ⟨v,B,a,b,n',c,k⟩:=RSl.focusDp r n (i:=i) (d:=d) (by simpa using e)
    refine ⟨v,B,by simpa using a,b,n',c,fun H0' H' d2 B2 s q sb w=>?_⟩
    obtain ⟨A2,x,y⟩:=k H0' H' d2 B2 s q sb w
    exact ⟨A2, .no x,y⟩
  | _,_,_, .val (v:=v) h r,n,0,d,e=>by simp at e
  | _,_,_, .val h r,n,i + 1,d,e=>by
    obtain ⟨v,B,a,b,n',c,k⟩:=RSl.focusDp r n (i:=i) (d:=d) (by simpa using e)
    refine ⟨v,B,by simpa using a,b,n',c,fun H0' H' d2 B2 s q sb w=>?_⟩
    obtain ⟨A2,x,y⟩:=k H0' H' d2 B2 s q sb w
    exact ⟨A2, .val (Rep.mono s h) x,y⟩
  | _,_,_, .own _ _ r,n,0,d,e=>by simp at e
  | _,_,_, .own (p:=p) h1 h2 r,n,i + 1,d,e=>by
    have n0:=List.nodup_cons.mp n
    obtain ⟨v,B,a,b,n',c,k⟩:=RSl.focusDp r n0.2 (i:=i) (d:=d) (by simpa using e)
    refine ⟨v,B,by simpa using a,fun x hx=>List.mem_cons_of_mem _ (b x hx),n',c,fun H0' H' d2 B2 s q sb w=>?_⟩
    obtain ⟨A2,x,y⟩:=k H0' H' d2 B2 s q sb (fun q hq=>w q (List.mem_cons_of_mem _ hq))
    exact ⟨p :: A2, .own (w p (List.mem_cons_self ..) (fun z=>n0.1 (b p z)) _ h1) (Reps.mono s h2) x,y.cons₂ _⟩
  | _,_,_, .dp (v:=v) (B:=B) h r,n,0,d,e=>by
    simp at e; subst e
    have n0:=List.nodup_append.mp n
    refine ⟨v,B,rfl,fun x hx=>List.mem_append_left _ hx,n0.1,h,fun H0' H' d2 B2 s q sb w=>?_⟩
    exact ⟨_, .dp q (RSl.mono s r fun p hp=>w p (List.mem_append_right _ hp) fun z=>n0.2.2 p z p hp rfl),List.Sublist.append sb (List.Sublist.refl _)⟩
  | _,_,_, .dp (B:=C) h r,n,i + 1,d,e=>by
    have n0:=List.nodup_append.mp n
    obtain ⟨v,B,a,b,n',c,k⟩:=RSl.focusDp r n0.2.1 (i:=i) (d:=d) (by simpa using e)
    refine ⟨v,B,by simpa using a,fun x hx=>List.mem_append_right _ (b x hx),n',c,fun H0' H' d2 B2 s q sb w=>?_⟩
    obtain ⟨A2,x,y⟩:=k H0' H' d2 B2 s q sb (fun q hq=>w q (List.mem_append_right _ hq))
    exact ⟨C ++ A2, .dp (RepD.mono s h fun p hp=>w p (List.mem_append_left _ hp) fun z=>n0.2.2 p hp p (b p z) rfl) x,List.Sublist.append (List.Sublist.refl _) y⟩
theorem RS.place {K:PySem.W.Frag} {F A:List Addr} {H:Hp} {t:Th} {σ:L2.St} {i:Nat} {d:D} {ns:List Int} {ds1:List D} (R:RS K F H A t σ) (e:t[i]?=some (.dp d)) (e1:getP d ns=some (.lst ds1)) :
    ∃ v p vs1 B1,σ[i]?=some (some v)∧Reach K H v ns (.ref p)∧H p=some (.lst vs1)∧RepDs K (hide (A ++ F) H) H ds1 vs1 B1∧p ∉ B1∧p ∈ A ∧
      ∀ H1 es ws B2 d2,Same H H1→(∀ H',(∀ q,q ≠ p→H' q=H1 q)→Same (hide (A ++ F) H) (hide (A ++ F) H')→RepDs K (hide (A ++ F) H') H' es ws B2)→B2.Sublist B1→putP d ns (.lst es)=some d2 →
        ∃ A2,RS K F (L2.upd H1 p (.lst ws)) A2 (t.set i (.dp d2)) σ∧Gr A H A2 (L2.upd H1 p (.lst ws)):=by
  obtain ⟨v,B,a1,a2,a3,a4,a5⟩:=R.rel.focusDp R.nd e
  obtain ⟨p,vs1,B1,b1,b2,b3,b4,b5,b6,b7⟩:=a4.focus (hide_sub _ _) ns a3 e1
  refine ⟨v,p,vs1,B1,a1,b1,b2,b3,b6,a2 p b4,fun H1 es ws B2 d2 gs mk sb ep=>?_⟩
  have pA:p ∈ A:=a2 p b4
  have hh:Same (hide (A ++ F) H) (hide (A ++ F) (L2.upd H1 p (.lst ws))):=fun b o q=>by
    obtain ⟨n,q⟩:=of_hide q
    have nb:b ≠ p:=fun z=>n (List.mem_append_left _ (z ▸ pA))
    exact hide_get (by rw [upd_ne nb]; exact gs _ _ q) n
  have kp:∀ q ∈ A,q ≠ p→∀ o,H q=some o→L2.upd H1 p (.lst ws) q=some o:=fun q _ n o h=>by rw [upd_ne n]; exact gs _ _ h
  obtain ⟨B',c1,c2⟩:=b7 (hide (A ++ F) (L2.upd H1 p (.lst ws))) (L2.upd H1 p (.lst ws)) es ws B2 d2 hh upd_same (mk _ (fun q n=>upd_ne n) hh) sb ep (fun q hq=>kp q (a2 q hq)) a3
  obtain ⟨A2,d1,d3⟩:=a5 _ _ d2 B' hh c1 c2 (fun q hq nq=>kp q hq fun z=>nq (z ▸ b4))
  have sub:∀ x ∈ A2,x ∈ A:=fun x hx=>d3.subset hx
  have mu:Lists (L2.upd H1 p (.lst ws)) (A ++ F):=fun q hq=>by
    by_cases z:q=p
    · exact ⟨mL ws,by rw [z]; exact upd_same⟩
    · obtain ⟨us,w⟩:=R.mu q hq
      exact ⟨us,by rw [upd_ne z]; exact gs _ _ w⟩
  refine ⟨A2,⟨fun q hq=>mu q ?_,R.nd.sublist d3,fun q hq=>R.dj q (sub q hq),RSl.mono (hide_less _ fun a z=>?_) d1 fun _ _ _ h=>h⟩,fun b o n h=>?_,fun b hb=>?_,fun b hb => .inl (sub b hb)⟩
  · exact (List.mem_append.mp hq).elim (fun z=>List.mem_append_left _ (sub q z)) (fun z=>List.mem_append_right _ z)
  · exact (List.mem_append.mp z).elim (fun z=>List.mem_append_left _ (sub a z)) (fun z=>List.mem_append_right _ z)
  · rw [upd_ne (fun z=>n (by rw [z]; exact pA))]; exact gs _ _ h
  · obtain ⟨us,w⟩:=mu b (List.mem_append_left _ hb)
    rw [w]; simp
def pthD:List DE→Th→Option (List Int)
  | [],_=>some []
  | f :: fs,t=>(f t).bind fun r=>match r.d with
    | .int n=>(pthD fs t).map (n :: ·)
    | _=>none
theorem pthD_snoc {f:DE} {t:Th}:∀ {fs:List DE} {ns':List Int},pthD (fs ++ [f]) t=some ns'→∃ ns n r,pthD fs t=some ns∧f t=some r∧r.d = .int n∧ns'=ns ++ [n]
  | [],ns',e=>by
    simp only [List.nil_append,pthD] at e
    cases e1:f t with
    | none=>rw [e1] at e; cases e
    | some r =>
      rw [e1] at e
      simp only [Option.bind_some] at e
      split at e
      · rename_i n z; cases e; exact ⟨[],n,r,rfl,rfl,z,rfl⟩
      · cases e
  | g :: fs,ns',e=>by
    simp only [List.cons_append,pthD] at e
    cases e1:g t with
    | none=>rw [e1] at e; cases e
    | some r =>
      rw [e1] at e
      simp only [Option.bind_some] at e
      split at e
      · rename_i n z
        cases e2:pthD (fs ++ [f]) t with
        | none=>rw [e2] at e; cases e
        | some ms =>
          rw [e2] at e
          cases e
          obtain ⟨ns,m,r',a1,a2,a3,a4⟩:=pthD_snoc e2
          refine ⟨n :: ns,m,r',?_,a2,a3,by rw [a4]; rfl⟩
          simp only [pthD,e1,Option.bind_some,z,a1]; rfl
      · cases e
theorem Reach.snoc {K:PySem.W.Frag} {H:Hp} {n:Int} {w:V}:∀ {ns:List Int} {v:V},Reach K H v (ns ++ [n]) w→∃ p vs,Reach K H v ns (.ref p)∧(SqL K H p vs ∨ SqT K H p vs)∧atI vs n=some w
  | [],v,h=>by
    obtain ⟨p,vs,x,rfl,h1,h2,h3⟩:=h
    cases h3
    exact ⟨p,vs,rfl,h1,h2⟩
  | m :: ns,v,h=>by
    obtain ⟨p,vs,x,rfl,h1,h2,h3⟩:=h
    obtain ⟨p',vs',a1,a2,a3⟩:=Reach.snoc h3
    exact ⟨p',vs',⟨p,vs,x,rfl,h1,h2,a1⟩,a2,a3⟩
def plE (K:PySem.W.Frag) (F:List Addr) (i:Nat) (fs:List DE):TE:=fun σ H Q => ∃ A t v ns w,RS K F H A t σ∧pthD fs t=some ns∧σ[i]?=some (some v)∧Reach K H v ns w∧∀ H',Same H H'→Q w H'
section
variable {X:Cx} {F:List Addr} {a b c o:Expr} {es:List Expr} {fa fb fc:DE} {fs:List DE} {g g1 g2:DS} {ft fu:DT} {pos:Pos} {st:Stmt} {rest:List Stmt} {tg:Expr} {gt:TG} {kt:D→Th→Option Th}
theorem pl_var (i:Nat) {x:Str} (hN:X.N[i]?=some x:=by rfl) (hv:Vis X.env.scope x:=by first | exact Or.inl rfl | exact Or.inr (Or.inl rfl) | exact Or.inr (Or.inr rfl)) (hd:(x == ("__debug__":Str))=false:=by decide)
    (hcd:(x == ("__classdict__":Str))=false:=by decide):PE X (.Name x pos) (plE X.K F i []):=by
  refine PE.imp (pe_var (i:=i) hN hv hd hcd) ?_
  rintro σ H Q ⟨A,t,v,ns,w,R,e,h1,h2,h⟩
  cases e
  cases h2
  exact ⟨v,h1,h H (Same.refl H)⟩
theorem pl_ix {i:Nat} (ha:PE X a (plE X.K F i fs)) (hb:PE X b (dE X.K F fb)) (hs:PlainIx b:=by intro _ _; rfl):PE X (.Subscript a b pos) (plE X.K F i (fs ++ [fb])):=by
  refine PE.imp (pe_ix (ix_list.or ix_tup) ha hb hs) ?_
  rintro σ H Q ⟨A,t,v,ns,w,R,e,h1,h2,h⟩
  obtain ⟨ms,n,r,a1,a2,a3,rfl⟩:=pthD_snoc e
  obtain ⟨p,vs,b1,b2,b3⟩:=h2.snoc
  refine ⟨A,t,v,ms, .ref p,R,a1,h1,b1,fun H1 gs=>⟨A,t,r,R.grow gs,a2,fun y H2 gs2 q=>?_⟩⟩
  have p2:=q.full
  rw [a3] at p2
  cases rep_int p2
  rcases b2 with b2 | b2
  · exact .inl ⟨p,vs,n,w,rfl,rfl,SqL.mono (gs.trans gs2) b2,b3,h H2 (gs.trans gs2)⟩
  · exact .inr ⟨p,vs,n,w,rfl,rfl,SqT.mono (gs.trans gs2) b2,b3,h H2 (gs.trans gs2)⟩
def kAppP (t:Th) (i:Nat) (ns:List Int) (r:Ev):Option Out:=match t[i]? with
  | some (.dp d)=>match getP d ns with
    | some (.lst ds)=>if flat r.d && decide (ds.length < 100000) then (putP d ns (.lst (ds ++ [r.d]))).map fun d2 => .nx (t.set i (.dp d2)) else none
    | _=>none
  | _=>none
def dAppP (i:Nat) (fs:List DE) (f:DE):DS:=fun t=>(pthD fs t).bind fun ns=>(f t).bind (kAppP t i ns)
theorem RepDs.app1 {K:PySem.W.Frag} {H0 H:Hp} {d:D} {v:V} (q:RepD K H0 H d v []):∀ {ds:List D} {vs:List V} {B:List Addr},RepDs K H0 H ds vs B→RepDs K H0 H (ds ++ [d]) (vs ++ [v]) B
  | _,_,_, .nil => .cons (B:=[]) (C:=[]) q .nil
  | _,_,_, .cons h r => .cons h (RepDs.app1 q r)
theorem Rep.off {K:PySem.W.Frag} {H1 H':Hp} {P:List Addr} {p:Addr} {d:D} {v:V} {vs:List V} (m:Lists H1 P) (hp:H1 p=some (.lst vs)) (k:∀ q,q ≠ p→H' q=H1 q) (f:flat d=true) (r:Rep K H1 d v):Rep K (hide P H') d v:=by
  have:=Rep.hid (P:=p :: P) (fun b hb=>by
    rcases List.mem_cons.mp hb with rfl | hb
    · exact ⟨mL vs,hp⟩
    · exact m b hb) f r
  refine Rep.mono (fun b o h=>?_) this
  obtain ⟨n,h⟩:=of_hide h
  exact hide_get (by rw [k b fun z=>n (z ▸ List.mem_cons_self ..)]; exact h) fun z=>n (List.mem_cons_of_mem _ z)
theorem psd_appP (i:Nat) {apos cpos:Pos} (ho:PE X o (plE X.K F i fs)) (he:PE X a (dE X.K F fa)) (hst:starEach [a] X.env=[(false,eval a X.env)]:=by rfl)
    (hbase:attributeBase o "append" X.env (eval o X.env)=eval o X.env:=by rfl)
    (hfew:((backTo cpos (starEach [a] X.env)).all (fun x => !x.1) && (backToKw cpos (keywordEach [] X.env)).all (fun x=>x.1.isSome)
      && decide ([a].length + ([]:List Keyword).length + (if ([]:List Keyword).isEmpty then 0 else 1) < 30))=true:=by rfl)
    (hline:(apos.endLine == cpos.line)=true:=by rfl) (hplain:(backTo cpos (starEach [] X.env)).any (·.1)=false:=by rfl)
    (hsw:swapsWith (.Call (.Attribute o "append" apos) [a] [] cpos) none pos.line X.env=pure false:=by rfl) :
    PS X (.Expr (.Call (.Attribute o "append" apos) [a] [] cpos) pos) (dS X.K F (dAppP i fs fa)):=by
  refine PS.imp (ps_expr (pe_bm PySem.F.plainAttrs_list PySem.F.slot_list_append PySem.F.type_list_append mt_append ho (pa_cons he pa_nil hst) hbase hfew hline hst hplain) hsw) ?_
  rintro E σ H ⟨A,t,o,R,e,h⟩
  unfold dAppP at e
  cases e0:pthD fs t with
  | none=>rw [e0] at e; cases e
  | some ns =>
  cases e1:fa t with
  | none=>rw [e0,e1] at e; cases e
  | some r =>
    rw [e0,e1] at e
    have e:kAppP t i ns r=some o:=e
    unfold kAppP at e
    split at e
    case h_2=>cases e
    rename_i d z
    split at e
    case h_2=>cases e
    rename_i ds z1
    split at e
    case isFalse=>cases e
    rename_i ok
    simp only [Bool.and_eq_true,decide_eq_true_eq] at ok
    cases e3:putP d ns (.lst (ds ++ [r.d])) with
    | none=>rw [e3] at e; cases e
    | some d2 =>
      rw [e3] at e
      cases e
      obtain ⟨v,p,vs1,B1,a1,a2,a3,a4,a5,a6,a7⟩:=R.place z z1
      refine ⟨A,t,v,ns, .ref p,R,e0,a1,a2,fun H1 gs=>⟨.inl ⟨rfl,vs1,SqL.of (gs _ _ a3)⟩,A,t,r,R.grow gs,e1,fun y H2 gs2 q=>⟨p,vs1,y,rfl,rfl,gs2 _ _ (gs _ _ a3),?_,?_⟩⟩⟩
      · have:vs1.length < 100000:=by rw [a4.length]; exact ok.2
        exact Nat.lt_of_lt_of_le this (by rw [sizeLine_eq]; decide)
      · have g2:=gs.trans gs2
        obtain ⟨A2,R2,gr⟩:=a7 H2 (ds ++ [r.d]) (vs1 ++ [y]) B1 d2 g2 (fun H' k hh=>by
          refine RepDs.app1 (.flat ok.1 (Rep.off (R.mu.mono g2) (g2 _ _ a3) k ok.1 q.full)) (RepDs.mono hh a4 fun b hb o w=>?_)
          rw [k b fun z=>a5 (z ▸ hb)]
          exact g2 _ _ w) (List.Sublist.refl _) e3
        exact h _ _ _ gr R2
end
end DL
namespace DL
open PySem PySem.Spec PyProof.Rows L2
def toDn:Ev→Option D
  | .cl d=>if flat d then some d else none
  | .tm d=>if flat d then some d else none
  | .nw xs=>if flats xs then some (.lst xs) else none
  | .dn d=>some d
theorem RepEv.toDn {K:PySem.W.Frag} {F A:List Addr} {H H':Hp} {r:Ev} {v:V} {d:D} (m:Lists H (A ++ F)) (g:Same H H') (h:RepEv K F A H H' r v) (e:toDn r=some d):RepEv K F A H H' (.dn d) v:=by
  cases r with
  | cl d0 =>
    simp only [DL.toDn] at e
    split at e
    · rename_i f; cases e
      exact ⟨[],List.nodup_nil,fun b hb=>(by cases hb), .flat f h⟩
    · cases e
  | tm d0 =>
    simp only [DL.toDn] at e
    split at e
    · rename_i f; cases e
      exact ⟨[],List.nodup_nil,fun b hb=>(by cases hb), .flat f (Rep.hid (m.mono g) f (Rep.mono (hide_sub _ _) h))⟩
    · cases e
  | nw xs =>
    simp only [DL.toDn] at e
    split at e
    · rename_i f; cases e
      obtain ⟨p,vs,rfl,h1,h2,h3⟩:=h
      exact ⟨[p],by simp,fun b hb=>by simp at hb; subst hb; exact h1, .lst h2 (RepDs.of_flat f h3)⟩
    · cases e
  | dn d0=>cases e; exact h
abbrev DN:=Th→Option (D × List Nat)
abbrev DNs:=Th→Option (List D × List Nat)
theorem RepDs.appD {K:PySem.W.Frag} {H0 H:Hp} {d:D} {v:V} {C:List Addr} (q:RepD K H0 H d v C):∀ {ds:List D} {vs:List V} {B:List Addr},RepDs K H0 H ds vs B→RepDs K H0 H (ds ++ [d]) (vs ++ [v]) (B ++ C)
  | _,_,_, .nil=>by
    have:=RepDs.cons q .nil
    simpa using this
  | _,_,_, .cons h r=>by
    have:=RepDs.cons h (RepDs.appD q r)
    simpa [List.append_assoc] using this
def compN (k:D→Th→Option Th) (ft:DT) (fe:DE):List D→Th→Option (List D)
  | [],_=>some []
  | d :: ds,t=>(k d t).bind fun t1=>(ft t1).bind fun b=>if b then (fe t1).bind fun r=>(toDn r).bind fun d=>(compN k ft fe ds t1).map fun xs=>d :: xs else compN k ft fe ds t1
def dCompN (n:Nat) (cap:List Nat) (fs:DI) (k:D→Th→Option Th) (ft:DT) (fe:DE):DE:=fun t=>(fs t).bind fun q=>(capD t cap).bind fun c=>if q.2.length ≤ 50000 then (compN k ft fe q.2 (List.replicate n Sl.no ++ c.2.map Sl.val)).map fun xs => .dn (.lst xs) else none
theorem compN_len {k:D→Th→Option Th} {ft:DT} {fe:DE}:∀ {ds:List D} {t:Th} {xs:List D},compN k ft fe ds t=some xs→xs.length ≤ ds.length
  | [],t,xs,e=>by cases e; simp
  | d :: ds,t,xs,e=>by
    unfold compN at e
    cases e1:k d t with
    | none=>rw [e1] at e; cases e
    | some t1 =>
      rw [e1] at e
      have e:((ft t1).bind fun b=>if b then (fe t1).bind fun r=>(toDn r).bind fun d=>(compN k ft fe ds t1).map fun xs=>d :: xs else compN k ft fe ds t1)=some xs:=e
      cases e2:ft t1 with
      | none=>rw [e2] at e; cases e
      | some b =>
        rw [e2] at e
        cases b with
        | false=>have:=compN_len (ds:=ds) (t:=t1) e; simp; omega
        | true =>
          have e:((fe t1).bind fun r=>(toDn r).bind fun d=>(compN k ft fe ds t1).map fun xs=>d :: xs)=some xs:=e
          cases e3:fe t1 with
          | none=>rw [e3] at e; cases e
          | some r =>
            rw [e3] at e
            have e:((toDn r).bind fun d=>(compN k ft fe ds t1).map fun xs=>d :: xs)=some xs:=e
            cases e5:toDn r with
            | none=>rw [e5] at e; cases e
            | some d0 =>
              rw [e5] at e
              have e:((compN k ft fe ds t1).map fun xs=>d0 :: xs)=some xs:=e
              cases e4:compN k ft fe ds t1 with
              | none=>rw [e4] at e; cases e
              | some ys=>rw [e4] at e; cases e; have:=compN_len e4; simp; omega
theorem tcomp_ofN {X:Cx} {F:List Addr} {n:Nat} {cap:List Nat} {fs:DI} {g:TG} {kt:D→Th→Option Th} {ft:DT} {fe:DE} (hk:∀ F',TgOk X.K F' g kt) {σ:L2.St} {H:Hp} {Q:VK} (h:dE X.K F (dCompN n cap fs kt ft fe) σ H Q) :
    tComp n cap (dI X.K F fs) g (fun σ H Q => ∃ F',dT X.K F' ft σ H Q) (fun σ H Q => ∃ F',dE X.K F' fe σ H Q) σ H Q:=by
  obtain ⟨A,t,r,R,e,h⟩:=h
  unfold dCompN at e
  cases e1:fs t with
  | none=>rw [e1] at e; cases e
  | some q =>
    obtain ⟨b,ds⟩:=q
    cases e2:capD t cap with
    | none=>rw [e1,e2] at e; cases e
    | some q2 =>
      obtain ⟨c,caps⟩:=q2
      rw [e1,e2] at e
      have e:(if ds.length ≤ 50000 then (compN kt ft fe ds (List.replicate n Sl.no ++ caps.map Sl.val)).map fun xs=>Ev.dn (.lst xs) else none)=some r:=e
      split at e
      case isFalse=>cases e
      rename_i hlen
      cases e3:compN kt ft fe ds (List.replicate n Sl.no ++ caps.map Sl.val) with
      | none=>rw [e3] at e; cases e
      | some xs =>
        rw [e3] at e
        cases e
        have xl:=compN_len e3
        obtain ⟨cvs,cv1,cv2⟩:=capD_rep R e2
        -- what is hidden from the block,but its own list
        obtain ⟨F',F'def⟩:∃ F',F'=hidF (b && c) A F:=⟨_,rfl⟩
        have subF:∀ x ∈ F',x ∈ A ++ F:=fun x hx=>by
          rw [F'def] at hx
          unfold hidF at hx
          split at hx
          · exact hx
          · exact List.mem_append_right _ hx
        have lessB:∀ H:Hp,Same (hide (hidF b A F) H) (hide F' H):=fun H=>hide_less H fun x hx=>by
          rw [F'def] at hx
          cases b <;> cases c <;> simp [hidF] at hx ⊢ <;> first | exact hx | exact .inr hx | (rcases hx with z | z <;> simp [z])
        have lessC:∀ H:Hp,Same (hide (hidF c A F) H) (hide F' H):=fun H=>hide_less H fun x hx=>by
          rw [F'def] at hx
          cases b <;> cases c <;> simp [hidF] at hx ⊢ <;> first | exact hx | exact .inr hx | (rcases hx with z | z <;> simp [z])
        have wi:tComp n cap (dI X.K F fs) g (fun σ H Q => ∃ F',dT X.K F' ft σ H Q) (fun σ H Q => ∃ F',dE X.K F' fe σ H Q) σ H Q:=by
          refine ⟨A,t,b,ds,R,e1,fun J H1 Good gs src gd Dd hD=>?_⟩
          have H1A:Lists H1 (A ++ F):=R.mu.mono gs
          have st0:Same (hide F' H1) (hide (Dd :: F') (upd H1 Dd (.lst []))):=hide_upd hD
          refine ⟨fun i m σ' H'=>i + m=ds.length∧∃ th acc rest vs B,RS X.K (Dd :: F') H' [] th σ'∧compN kt ft fe (ds.drop i) th=some rest∧acc ++ rest=xs∧H' Dd=some (.lst vs)∧(RepDs X.K (hide (Dd :: F') H') H' acc vs B∧B.Nodup∧Dd ∉ B∧∀ b ∈ B,H1 b=none)∧Same H1 H'∧Good (Dd :: F') H',
            ⟨ds.length,by omega,_,[],xs,[],[],⟨?_,List.nodup_nil,fun p hp=>(by cases hp),?_⟩,by simpa using e3,rfl,upd_same,⟨.nil,List.nodup_nil,by simp,by simp⟩,upd_sameH hD,src.keep _ _ _ _ gd (fun b o z=>st0 _ _ (lessB _ _ _ z))⟩,?_⟩
          · intro q hq
            have hq:q ∈ Dd :: F':=hq
            rcases List.mem_cons.mp hq with z | z
            · exact ⟨mL [],by rw [z]; exact upd_same⟩
            · obtain ⟨us,w⟩:=H1A q (subF q z)
              exact ⟨us,(upd_sameH hD) _ _ w⟩
          · unfold capV
            rw [cv1]
            exact RSl.noVals (Reps.mono (fun b o z=>st0 _ _ (lessC H1 _ _ (same_hide gs _ _ z))) cv2) n
          · rintro i m σ' H' ⟨hm,th,acc,rest,vs,B,RR,ec,ex,hv,⟨hr,hnd,hDB,hfr⟩,sm,gg⟩
            cases m with
            | zero =>
              have z:i=ds.length:=by omega
              subst z
              rw [List.drop_length] at ec
              cases ec
              rw [List.append_nil] at ex
              subst ex
              refine .inl ⟨src.stop _ _ gg,h _ H' (gs.trans sm) ⟨Dd :: B,List.nodup_cons.mpr ⟨hDB,hnd⟩,fun x hx=>?_, .lst hv (RepDs.hid (fun q hq=>?_) (hide_sub _ _) hr)⟩⟩
              · rcases List.mem_cons.mp hx with rfl | z
                · exact Same.free gs hD
                · exact Same.free gs (hfr x z)
              · rcases List.mem_append.mp hq with z | z
                · rcases List.mem_cons.mp z with rfl | z
                  · exact ⟨mL vs,hv⟩
                  · exact hr.lists q z
                · obtain ⟨us,w⟩:=H1A q z
                  exact ⟨us,sm _ _ w⟩
            | succ m =>
              have hil:i < ds.length:=by omega
              refine .inr ⟨src.go _ _ i gg hil,fun σ' H'=>i + 1 + m=ds.length∧∃ th acc rest vs B,RS X.K (Dd :: F') H' [] th σ'∧compN kt ft fe (ds.drop (i + 1)) th=some rest∧acc ++ rest=xs∧H' Dd=some (.lst vs)∧(RepDs X.K (hide (Dd :: F') H') H' acc vs B∧B.Nodup∧Dd ∉ B∧∀ b ∈ B,H1 b=none)∧Same H1 H'∧Good (Dd :: F') H',
                fun σ' H' q=>⟨m,Nat.lt_succ_self m,q⟩,fun x H2 y=>?_⟩
              obtain ⟨gs2,d,hd,rd⟩:=src.yld _ _ i x H2 gg RR.mu y hil
              have ed:ds.drop i=d :: ds.drop (i + 1):=by
                have hd':ds[i]=d:=by
                  rw [List.getElem?_eq_getElem hil] at hd
                  exact Option.some.inj hd
                rw [← hd']
                exact List.drop_eq_getElem_cons hil
              rw [ed] at ec
              unfold compN at ec
              cases k1:kt d th with
              | none=>rw [k1] at ec; cases ec
              | some t1 =>
                rw [k1] at ec
                have ec:((ft t1).bind fun b=>if b then (fe t1).bind fun r=>(toDn r).bind fun d=>(compN kt ft fe (ds.drop (i + 1)) t1).map fun xs=>d :: xs else compN kt ft fe (ds.drop (i + 1)) t1)=some rest:=ec
                refine hk (Dd :: F') σ' H2 [] th t1 d x _ (RR.grow gs2) rd k1 fun σ2 A2 gr2 R2=>?_
                have A20:=none_owned R2 gr2
                subst A20
                cases k2:ft t1 with
                | none=>rw [k2] at ec; cases ec
                | some bb =>
                  rw [k2] at ec
                  refine ⟨Dd :: F',[],t1,bb,R2,k2,fun H3 gs3=>?_⟩
                  cases bb with
                  | false =>
                    refine iteF ⟨by omega,t1,acc,rest,vs,B,R2.grow gs3,ec,ex,gs3 _ _ (gs2 _ _ hv),⟨RepDs.mono (same_hide (gs2.trans gs3)) hr fun p _ o w=>gs3 _ _ (gs2 _ _ w),hnd,hDB,hfr⟩,(sm.trans gs2).trans gs3,src.keep _ _ _ _ gg (same_hide (gs2.trans gs3))⟩
                  | true =>
                    have ec:((fe t1).bind fun r=>(toDn r).bind fun d=>(compN kt ft fe (ds.drop (i + 1)) t1).map fun xs=>d :: xs)=some rest:=ec
                    cases k3:fe t1 with
                    | none=>rw [k3] at ec; cases ec
                    | some re =>
                      rw [k3] at ec
                      have ec:((toDn re).bind fun d=>(compN kt ft fe (ds.drop (i + 1)) t1).map fun xs=>d :: xs)=some rest:=ec
                      cases k5:toDn re with
                      | none=>rw [k5] at ec; cases ec
                      | some de =>
                      rw [k5] at ec
                      have ec:((compN kt ft fe (ds.drop (i + 1)) t1).map fun xs=>de :: xs)=some rest:=ec
                      cases k4:compN kt ft fe (ds.drop (i + 1)) t1 with
                      | none=>rw [k4] at ec; cases ec
                      | some ys =>
                        rw [k4] at ec
                        cases ec
                        refine iteT ⟨Dd :: F',[],t1,re,R2.grow gs3,k3,fun v H4 gs4 q4=>⟨vs,gs4 _ _ (gs3 _ _ (gs2 _ _ hv)),?_,?_⟩⟩
                        · have l1:=hr.length
                          have l2:acc.length + (ys.length + 1)=xs.length:=by rw [← ex]; simp
                          exact Nat.lt_of_lt_of_le (show vs.length < 50000 by omega) (by rw [sizeLine_eq]; decide)
                        · have s3:=gs2.trans gs3
                          have s4:=s3.trans gs4
                          have hu:Same (hide (Dd :: F') H4) (hide (Dd :: F') (upd H4 Dd (.lst (vs ++ [v])))):=hide_same_upd (List.mem_cons_self ..)
                          have mu3:Lists H3 (Dd :: F'):=(R2.grow gs3).mu
                          obtain ⟨B4,n4,f4,r4⟩:=q4.toDn (R2.grow gs3).mu gs4 k5
                          have D3:H3 Dd=some (.lst vs):=s3 _ _ hv
                          have nD4:Dd ∉ B4:=fun z=>by rw [f4 _ z] at D3; cases D3
                          have off:∀ b,b ≠ Dd→upd H4 Dd (.lst (vs ++ [v])) b=H4 b:=fun b n=>upd_ne n
                          refine ⟨by omega,t1,acc ++ [de],ys,vs ++ [v],B ++ B4,RS.updF ((R2.grow gs3).grow gs4) (List.mem_cons_self ..),k4,by simpa using ex,upd_same,⟨?_,?_,?_,?_⟩,?_,?_⟩
                          · refine RepDs.appD (RepD.mono hu (RepD.hid (mu3.mono gs4) (hide_sub _ _) r4) fun b hb o w=>?_) (RepDs.mono (fun b o z=>hu _ _ (same_hide s4 _ _ z)) hr fun b hb o w=>?_)
                            · rw [off b fun z=>nD4 (z ▸ hb)]; exact w
                            · rw [off b fun z=>hDB (z ▸ hb)]; exact s4 _ _ w
                          · refine List.nodup_append.mpr ⟨hnd,n4,fun x hx y hy e=>?_⟩
                            subst e
                            obtain ⟨us,w⟩:=hr.lists x hx
                            have:=s3 _ _ w
                            rw [f4 x hy] at this; cases this
                          · intro z
                            rcases List.mem_append.mp z with z | z
                            · exact hDB z
                            · exact nD4 z
                          · intro b hb
                            rcases List.mem_append.mp hb with z | z
                            · exact hfr b z
                            · exact Same.free (sm.trans s3) (f4 b z)
                          · exact fun b o z=>by
                              rw [upd_ne (fun w=>by rw [w,hD] at z; cases z)]
                              exact s4 _ _ (sm _ _ z)
                          · exact src.keep _ _ _ _ gg (fun b o z=>hu _ _ (same_hide s4 _ _ z))
        exact wi
section
variable {X:Cx} {F:List Addr} {a b c o:Expr} {es:List Expr} {fa fb fc:DE} {fs:List DE} {ga:DA} {g g1 g2:DS} {ft fu:DT} {pos:Pos} {st:Stmt} {rest:List Stmt} {tg:Expr} {gt:TG} {kt:D→Th→Option Th}
theorem rep_bl {K:PySem.W.Frag} {H:Hp} {p:Bool} {v:V} (h:Rep K H (.bl p) v):v = .bl p:=by cases h; rfl
def kRep:Ev→Ev→Option Ev:=fun r1 r2=>match r1,r2.d with
  | .nw xs, .int k=>if xs.length ≤ 100 && decide (-1000000 ≤ k∧k ≤ 1000) then some (.nw (List.replicate k.toNat xs).flatten) else none
  | _,_=>none
theorem Reps.rep {K:PySem.W.Frag} {H:Hp} {ds:List D} {vs:List V} (r:Reps K H ds vs):∀ k:Nat,Reps K H (List.replicate k ds).flatten (List.replicate k vs).flatten
  | 0=>by simpa using .nil
  | k + 1=>by simpa [List.replicate_succ] using r.app (Reps.rep r k)
theorem od_rep:OpD X F (binaryOp .Mult) kRep:=by
  intro pins s σ H0 H A x y v u Q r1 r2 r I m g0 rx ry q1 q2 e hq
  unfold kRep at e
  split at e
  · rename_i xs k z
    split at e
    · rename_i ok
      simp only [Bool.and_eq_true,decide_eq_true_eq] at ok
      cases e
      have p2:=q2.full
      rw [z] at p2
      cases rep_int p2
      obtain ⟨p,vs,rfl,h1,h2,h3⟩:=q1
      refine op_rep pins s σ H _ _ v u Q I rx ry ⟨p,k,vs,rfl,rfl,h2,by omega,by omega,?_,fun l hl=>hq _ _ (upd_sameH hl) ⟨l,_,rfl,Same.free g0 hl,upd_same,Reps.mono (hide_upd hl) (Reps.rep (Reps.mono (hide_less H fun a z=>List.mem_cons_of_mem _ z) h3) _)⟩⟩
      refine le_line ?_
      rw [h3.length]
      have h5:k.toNat ≤ 1000:=by omega
      exact Nat.le_trans (Nat.mul_le_mul ok.1 h5) (by decide)
    · cases e
  · cases e
def blsD:List D→Option (List Bool)
  | []=>some []
  | .bl i :: r=>(blsD r).map fun ns=>i :: ns
  | _ :: _=>none
theorem blsD_eq:∀ {ds:List D} {ns:List Bool},blsD ds=some ns→ds=ns.map D.bl
  | [],ns,e=>by cases e; rfl
  | .bl i :: r,ns,e=>by
    unfold blsD at e
    cases e1:blsD r with
    | none=>rw [e1] at e; cases e
    | some m=>rw [e1] at e; cases e; rw [blsD_eq e1]; rfl
  | .non :: r,ns,e=>by cases e
  | .int _ :: r,ns,e=>by cases e
  | .str _ :: r,ns,e=>by cases e
  | .tup _ :: r,ns,e=>by cases e
  | .lst _ :: r,ns,e=>by cases e
theorem reps_bls {K:PySem.W.Frag} {H:Hp}:∀ {ns:List Bool} {vs:List V},Reps K H (ns.map D.bl) vs→vs=ns.map V.bl
  | [],_, .nil=>rfl
  | n :: r,_, .cons h q=>by cases rep_bl h; rw [reps_bls q]; rfl
theorem bools_of:∀ {bs:List Bool} {its:List Value},Vals (bs.map V.bl) its→LSm.BoolsAre its bs
  | [],its,h=>by cases h; exact .nil
  | b :: bs,its,h=>by
    cases h with
    | cons r rr=>cases r; exact .cons b (bools_of rr)
theorem call_all_bools (hc:X.calm=true):CallR X (.builtin "all") (fun xs H Q => ∃ (p:Addr) (bs:List Bool),xs=[.ref p]∧SqL X.K H p (bs.map V.bl)∧Q (.bl (bs.all id)) H):=by
  intro pins s σ H xs us Q I r h
  obtain ⟨p,bs,rfl,hs,q⟩:=h
  obtain ⟨u,rfl,ru⟩:=vals1 r
  cases ru
  obtain ⟨its,rv,pl,_⟩:=I.list hs
  have hb:=bools_of rv
  have hl:=PlainL.isL pl
  have hlt:p < s.heap.objs.size:=by obtain ⟨_,e,_⟩:=hl; exact Heap.lt_size e
  refine call_all_walk (wpAny_pyIter_list hl ⟨s.heap.objs.size,[s.heap.objs.size,p],[s.heap.objs.size],its.toArray.size,_,_,fun i=>(bs[i]?).getD true,rfl,
    Walks.list (A:=X.A.in1) (I.ok.hd hc) _ p (Nat.ne_of_lt hlt) its.toArray,⟨⟨_,Heap.get?_push_size _ rfl,rfl,rfl⟩,hl.push _⟩,fun i v s' Q' E' hP hQ=>?_,fun h' tk hk=>?_⟩)
  · obtain ⟨b,e,rfl⟩:=hb.get i v (by simpa using hP)
    have hQ:Q' ((bs[i]?).getD true) s':=hQ
    rw [e] at hQ
    exact wpAny_truthy_bool hQ
  · have e:((List.range its.toArray.size).all fun i=>(bs[i]?).getD true)=bs.all id:=by
      rw [List.size_toArray,hb.length,LSm.range_all]
    refine ⟨.bl _,H,I.kept (t':=tk) (LSm.kept_iter hk),rfl,?_⟩
    rw [e]; exact q
theorem call_any_bools (hc:X.calm=true):CallR X (.builtin "any") (fun xs H Q => ∃ (p:Addr) (bs:List Bool),xs=[.ref p]∧SqL X.K H p (bs.map V.bl)∧Q (.bl (bs.any id)) H):=by
  intro pins s σ H xs us Q I r h
  obtain ⟨p,bs,rfl,hs,q⟩:=h
  obtain ⟨u,rfl,ru⟩:=vals1 r
  cases ru
  obtain ⟨its,rv,pl,_⟩:=I.list hs
  have hb:=bools_of rv
  have hl:=PlainL.isL pl
  have hlt:p < s.heap.objs.size:=by obtain ⟨_,e,_⟩:=hl; exact Heap.lt_size e
  refine call_any_walk (wpAny_pyIter_list hl ⟨s.heap.objs.size,[s.heap.objs.size,p],[s.heap.objs.size],its.toArray.size,_,_,fun i=>(bs[i]?).getD false,rfl,
    Walks.list (A:=X.A.in1) (I.ok.hd hc) _ p (Nat.ne_of_lt hlt) its.toArray,⟨⟨_,Heap.get?_push_size _ rfl,rfl,rfl⟩,hl.push _⟩,fun i v s' Q' E' hP hQ=>?_,fun h' tk hk=>?_⟩)
  · obtain ⟨b,e,rfl⟩:=hb.get i v (by simpa using hP)
    have hQ:Q' ((bs[i]?).getD false) s':=hQ
    rw [e] at hQ
    exact wpAny_truthy_bool hQ
  · have e:((List.range its.toArray.size).any fun i=>(bs[i]?).getD false)=bs.any id:=by
      rw [List.size_toArray,hb.length,LSm.range_any]
    refine ⟨.bl _,H,I.kept (t':=tk) (LSm.kept_iter hk),rfl,?_⟩
    rw [e]; exact q
def kBls (f:List Bool→Bool):List Ev→Option Ev:=fun rs=>match rs with
  | [r]=>(match r.d with
    | .lst ds=>(blsD ds).map fun bs => .cl (.bl (f bs))
    | _=>none)
  | _=>none
theorem cd_bls {id':String} {f:List Bool→Bool} (h:CallR X (.builtin id') (fun xs H Q => ∃ (p:Addr) (bs:List Bool),xs=[.ref p]∧SqL X.K H p (bs.map V.bl)∧Q (.bl (f bs)) H)):CallD X F (.builtin id') (kBls f):=by
  refine CallD.of h fun H0 H A xs rs e Q m g q ek hq=>?_
  unfold kBls at ek
  split at ek
  case h_2=>cases ek
  rename_i r
  cases q with
  | @cons _ v _ vs q1 q2 =>
    cases q2
    split at ek
    case h_2=>cases ek
    rename_i ds z
    cases e1:blsD ds with
    | none=>rw [e1] at ek; cases ek
    | some bs =>
      rw [e1] at ek
      cases ek
      have p:=q1.full
      rw [z,blsD_eq e1] at p
      cases p with
      | @lst _ l us h1 h2 =>
        have:=reps_bls h2
        subst this
        exact ⟨l,bs,rfl,h1,hq _ H (Same.refl H) (.bl _)⟩
end
end DL
namespace DL
open PySem PySem.Spec PyProof.Rows L2
def rng3Ok (a b c:Int):Bool:=Builtin.Range.small a b c && decide (c ≠ 0∧c.natAbs < 1000000∧0 ≤ Builtin.Range.rangeSize a b c)
def rng3 (a b c:Int):List D:=(List.range (Builtin.Range.rangeSize a b c).toNat).map fun i => .int (a + (i:Nat) * c)
def mkG (k:Nat) (N:List Str) (g:DS):List D→Option Ev:=fun ds=>if ds.length=k then (g (startD N ds)).bind outEv else none
theorem mkG_len {k:Nat} {N:List Str} {g:DS} {ds:List D} {r:Ev} (e:mkG k N g ds=some r):ds.length=k:=by
  unfold mkG at e
  split at e
  · assumption
  · cases e
theorem mkG_ok {k:Nat} {N:List Str} {g:DS} {ds:List D} {r:Ev} (e:mkG k N g ds=some r):∃ o,g (startD N ds)=some o∧outEv o=some r:=by
  unfold mkG at e
  split at e
  · cases e1:g (startD N ds) with
    | none=>rw [e1] at e; cases e
    | some o=>rw [e1] at e; exact ⟨o,rfl,e⟩
  · cases e
section
variable {X:Cx} {F:List Addr} {elt tg iter:Expr} {ifs:List Expr} {scope:Scope} {pos spos py:Pos} {fs:DI} {g:TG} {kt:D→Th→Option Th} {ft:DT} {fe fc:DE} {i:Nat} {y:Str}
theorem compU {n:Nat} {cap:List Nat} {N':List Str} (up:∀ {σ:L2.St} {H:Hp} {Q:VK},dE X.K F fc σ H Q→tComp n cap (dI X.K F fs) g (fun σ H Q => ∃ F',dT X.K F' ft σ H Q) (fun σ H Q => ∃ F',dE X.K F' fe σ H Q) σ H Q) (hc:X.calm=true) (hi:PI X tg iter (dI X.K F fs))
    (hg:∀ C s₃ H₃ fp pins,PG (blk X N' scope C s₃ H₃ fp pins) tg g) (ht:∀ C s₃ H₃ fp pins F',PTs (blk X N' scope C s₃ H₃ fp pins) ifs (dT X.K F' ft)) (he:∀ C s₃ H₃ fp pins F',PE (blk X N' scope C s₃ H₃ fp pins) elt (dE X.K F' fe))
    (hNd:X.N.Nodup) (hi₀:X.N[i]?=some y) (hy:Loc X.env.scope y) (hsw:swapsWith (.ListComp elt [⟨tg,iter,ifs,0⟩] scope pos) (some (.Name y py)) spos.line X.env=pure true) (hf:X.fn y=true ∨ X.env.scope.names.lookup y=some .local)
    (hkd:scope.kind = .function) (hcs:compOk scope.names X.env.kindOf=true) (hN:N'.length=n + cap.length) (hcap:capOk N' X.N n scope.names 0 cap=true) (hs:∀ x,foldedSetIterable iter X.env x=pure x) :
    PS X (.Assign [.Name y py] (.ListComp elt [⟨tg,iter,ifs,0⟩] scope pos) spos) (dS X.K F (dAsg i fc)):=by
  refine PS.imp (ps_compU (g:=g) (wi:=dI X.K F fs) (tt:=fun σ H Q => ∃ F',dT X.K F' ft σ H Q) (te:=fun σ H Q => ∃ F',dE X.K F' fe σ H Q) (compSc hkd hcs) hc hi hN (fun k j e=>by simpa using capOk_of hcap k j e) hg (fun C s₃ H₃ fp pins pins' s σ H Q I ⟨F',q⟩=>ht C s₃ H₃ fp pins F' pins' s σ H Q I q) (fun C s₃ H₃ fp pins pins' s σ H Q I ⟨F',q⟩=>he C s₃ H₃ fp pins F' pins' s σ H Q I q) hNd hi₀ hy hsw hf hs) ?_
  rintro E σ H ⟨A,t,o,R,e,h⟩
  unfold dAsg at e
  cases e1:fc t with
  | none=>rw [e1] at e; cases e
  | some r1 =>
    rw [e1] at e
    have e:(setSl t i r1).map Out.nx=some o:=e
    cases e2:setSl t i r1 with
    | none=>rw [e2] at e; cases e
    | some t' =>
      rw [e2] at e
      cases e
      refine up ⟨A,t,r1,R,e1,fun v H' gs q=>?_⟩
      obtain ⟨A',g',R'⟩:=R.put gs q e2
      exact h _ _ _ g' R'
theorem psd_setCN (n:Nat) (cap:List Nat) (N':List Str) (hNd:X.N.Nodup) (hi₀:X.N[i]?=some y) (hy:Loc X.env.scope y) (hc:X.calm=true) (hi:PI X tg iter (dI X.K F fs))
    (hg:∀ C s₃ H₃ fp pins,PG (blk X N' scope C s₃ H₃ fp pins) tg g) (hk:∀ F',TgOk X.K F' g kt) (ht:∀ C s₃ H₃ fp pins F',PTs (blk X N' scope C s₃ H₃ fp pins) ifs (dT X.K F' ft)) (he:∀ C s₃ H₃ fp pins F',PE (blk X N' scope C s₃ H₃ fp pins) elt (dE X.K F' fe))
    (hsw:swapsWith (.ListComp elt [⟨tg,iter,ifs,0⟩] scope pos) (some (.Name y py)) spos.line X.env=pure true:=by rfl) (hf:X.fn y=true ∨ X.env.scope.names.lookup y=some .local:=by first | exact .inl rfl | exact .inr rfl)
    (hkd:scope.kind = .function:=by rfl) (hcs:compOk scope.names X.env.kindOf=true:=by rfl) (hN:N'.length=n + cap.length:=by rfl) (hcap:capOk N' X.N n scope.names 0 cap=true:=by rfl)
    (hs:∀ x,foldedSetIterable iter X.env x=pure x:=by intro _; rfl):PS X (.Assign [.Name y py] (.ListComp elt [⟨tg,iter,ifs,0⟩] scope pos) spos) (dS X.K F (dAsg i (dCompN n cap fs kt ft fe))) :=
  compU (fun h=>tcomp_ofN hk h) hc hi hg ht he hNd hi₀ hy hsw hf hkd hcs hN hcap hs
end
end DL
namespace DL
open PySem PySem.Spec PyProof.Rows L2
section
variable {X:Cx} {F:List Addr} {a b c o:Expr} {es:List Expr} {fa fb fc:DE} {fs:List DE} {ga:DA} {g g1 g2:DS} {ft fu:DT} {pos:Pos} {st:Stmt} {rest:List Stmt} {tg:Expr} {gt:TG} {kt:D→Th→Option Th}
theorem boot_listT:bootBuiltins "list"=some (.type "list"):=by decide +kernel
theorem vals_get:∀ {xs:List V} {us:List Value},xs.length=us.length→(∀ (i:Nat) (x:V) (u:Value),xs[i]?=some x→us[i]?=some u→RelV x u)→Vals xs us
  | [],[],_,_ => .nil
  | [],_ :: _,h,_=>by simp at h
  | _ :: _,[],h,_=>by simp at h
  | x :: xs,u :: us,h,k => .cons (k 0 x u rfl rfl) (vals_get (by simpa using h) fun i y w e1 e2=>k (i + 1) y w (by simpa using e1) (by simpa using e2))
theorem items_ints {lo k:Int} {n:Nat} {acc:Array Value} (h:ItemsOf (fun i v => ∃ t,v = .int (lo + i * k) t) acc n):Vals ((List.range n).map fun i=>V.int (lo + (i:Nat) * k)) acc.toList:=by
  refine vals_get (by simp [h.1]) fun i x u e1 e2=>?_
  obtain ⟨t,rfl⟩:=h.2 i u (by simpa using e2)
  have hi:i < n:=by
    cases Nat.lt_or_ge i n with
    | inl z=>exact z
    | inr z=>rw [List.getElem?_map,List.getElem?_eq_none (by simpa using z)] at e1; cases e1
  rw [List.getElem?_map,List.getElem?_range hi] at e1
  simp at e1
  subst e1
  exact ⟨t,rfl⟩
theorem list_rng {pins:List (Addr × Obj)} {σ:L2.St} {H:Hp} {s:Shared} {Q:VK} {lo hi k:Int} {t u v:Tok} {tk:Nat} (hc:X.calm=true) (I:L2.Inv X pins σ H s) (ok:rng3Ok lo hi k=true) (sz:Builtin.Range.rangeSize lo hi k ≤ 50000)
    (q:∀ p,H p=none→Q (.ref p) (upd H p (.lst ((List.range (Builtin.Range.rangeSize lo hi k).toNat).map fun i=>V.int (lo + (i:Nat) * k))))) :
    wpAny (model X.prog X.w) X.A (call (.type "list") [.ref s.heap.objs.size]) (EP X pins σ Q) X.xe { s with heap:=s.heap.push { cls := .type "range",data := .fields #[.int lo t, .int hi u, .int k v] },toks:=tk }:=by
  simp only [rng3Ok,Bool.and_eq_true,decide_eq_true_eq] at ok
  have I1:L2.Inv X pins σ H { s with heap:=s.heap.push { cls := .type "range",data := .fields #[.int lo t, .int hi u, .int k v] },toks:=tk }:=I.kept fun b o e=>Heap.get?_push_of_some _ e
  have en:Builtin.Range.rangeSize lo hi k=(((Builtin.Range.rangeSize lo hi k).toNat:Nat):Int):=by omega
  refine call_list_range (I.ok.hd hc) (IsRange.new ..) ok.1 en (by omega) fun h' tk' acc c' hk hS hacc=>?_
  refine ⟨.ref _,_,I1.laid (o:=HO.lst ((List.range (Builtin.Range.rangeSize lo hi k).toNat).map fun i=>V.int (lo + (i:Nat) * k))) (t':=tk') hk (Nat.le_refl _) ⟨?_,acc.toList,c',items_ints hacc,by simpa using hS⟩,rfl,q _ I1.fresh⟩
  refine le_line ?_
  rw [List.length_map,List.length_range]; omega
def rArgs:List D→Option (Int × Int × Int)
  | [.int n]=>some (0,n,1)
  | [.int i, .int j]=>some (i,j,1)
  | [.int i, .int j, .int k]=>some (i,j,k)
  | _=>none
def dListR (g:DA):DE:=fun t=>(g t).bind fun rs=>(rArgs (rs.map Ev.d)).bind fun q=>if rng3Ok q.1 q.2.1 q.2.2 && decide (Builtin.Range.rangeSize q.1 q.2.1 q.2.2 ≤ 50000) then some (.nw (rng3 q.1 q.2.1 q.2.2)) else none
theorem ped_listR {p0 p1 p2:Pos} (hc:X.calm=true) (hgl:Gl X "list") (hml:X.mg "list"=none) (hgr:Gl X "range") (hmr:X.mg "range"=none) (ha:PA X (a :: es) (dA X.K F ga))
    (hst:starEach [.Call (.Name "range" p1) (a :: es) [] p2] X.env=[(false,eval (.Call (.Name "range" p1) (a :: es) [] p2) X.env)]:=by rfl)
    (hst1:starEach (a :: es) X.env=(false,eval a X.env) :: starEach es X.env:=by rfl) (hst2:(backTo p2 (starEach es X.env)).any (·.1)=false:=by rfl) :
    PE X (.Call (.Name "list" p0) [.Call (.Name "range" p1) (a :: es) [] p2] [] pos) (dE X.K F (dListR ga)):=by
  intro pins s σ H Q I h
  obtain ⟨A,t,r,R,e,h⟩:=h
  unfold dListR at e
  cases e1:ga t with
  | none=>rw [e1] at e; cases e
  | some rs =>
    rw [e1] at e
    simp only [Option.bind_some] at e
    cases e2:rArgs (rs.map Ev.d) with
    | none=>rw [e2] at e; cases e
    | some q =>
      rw [e2] at e
      simp only [Option.bind_some] at e
      split at e
      case isFalse=>cases e
      rename_i ok
      simp only [Bool.and_eq_true,decide_eq_true_eq] at ok
      cases e
      have mk:∀ (H1:Hp),Same H H1→∀ p,H1 p=none→Q (.ref p) (upd H1 p (.lst ((List.range (Builtin.Range.rangeSize q.1 q.2.1 q.2.2).toNat).map fun i=>V.int (q.1 + (i:Nat) * q.2.2)))):=fun H1 g1 p hp=>by
        refine h _ _ (g1.trans (upd_sameH hp)) ⟨p,_,rfl,Same.free g1 hp,upd_same,?_⟩
        have e3:rng3 q.1 q.2.1 q.2.2=((List.range (Builtin.Range.rangeSize q.1 q.2.1 q.2.2).toNat).map fun i=>q.1 + (i:Nat) * q.2.2).map D.int:=by simp [rng3]
        have e4:((List.range (Builtin.Range.rangeSize q.1 q.2.1 q.2.2).toNat).map fun i=>V.int (q.1 + (i:Nat) * q.2.2))=((List.range (Builtin.Range.rangeSize q.1 q.2.1 q.2.2).toNat).map fun i=>q.1 + (i:Nat) * q.2.2).map V.int:=by simp
        rw [e3,e4]
        exact Reps.ints _
      refine wpAny_Call_Name_kw (ld_blt I hgl hml boot_listT (PyProof.Rows.callWith_type1 ?_ (by rw [hst]; rfl) rfl))
      rw [hst]
      show wpAny _ _ (spliced ((false,eval (.Call (.Name "range" p1) (a :: es) [] p2) X.env) :: backTo pos (starEach [] X.env))) _ _ s
      refine Calls.spliced_cons (Call_ (ld_blt I hgr hmr boot_range (PyProof.Rows.callWith_type1 (thn (ha p2 pins s σ H (fun vs H1=>Same H H1∧RepEvs X.K F A H H1 rs vs) I ⟨A,t,rs,R,e1,fun vs H1 g1 q1=>⟨g1,q1⟩⟩) fun us s1 ⟨vs,H1,I1,r1,g1,q1⟩=>?_) hst1 hst2)))
      have full:=q1.full
      obtain ⟨q0,qh,qk⟩:=q
      unfold rArgs at e2
      split at e2
      · rename_i n z
        cases e2
        rw [z] at full
        have ev:=reps_ints (ns:=[qh]) full
        subst ev
        obtain ⟨u,rfl,ru⟩:=r1.one
        obtain ⟨t1,rfl⟩:=ru
        exact call_range_1 (Calls.spliced_nil (list_rng hc I1 ok.1 ok.2 (mk H1 g1)))
      · rename_i i j z
        cases e2
        rw [z] at full
        have ev:=reps_ints (ns:=[q0,qh]) full
        subst ev
        obtain ⟨u,w,rfl,ru,rw'⟩:=r1.two
        obtain ⟨t1,rfl⟩:=ru
        obtain ⟨t2,rfl⟩:=rw'
        exact call_range_2 (Calls.spliced_nil (list_rng hc I1 ok.1 ok.2 (mk H1 g1)))
      · rename_i i j k z
        cases e2
        rw [z] at full
        have ev:=reps_ints (ns:=[q0,qh,qk]) full
        subst ev
        cases r1 with
        | cons r rr =>
          cases rr with
          | cons r' rr =>
            cases rr with
            | cons r'' rr =>
              cases rr
              obtain ⟨t1,rfl⟩:=r
              obtain ⟨t2,rfl⟩:=r'
              obtain ⟨t3,rfl⟩:=r''
              have ok':=ok.1
              simp only [rng3Ok,Bool.and_eq_true,decide_eq_true_eq] at ok'
              have lg:qk.natAbs.log2 < 9000:=Nat.lt_of_le_of_lt (log2_le (k:=20) (by have:=ok'.2.2.1; omega)) (by decide)
              exact call_range_3 ok'.2.1 (Calls.spliced_nil (list_rng hc I1 ok.1 ok.2 (mk H1 g1))) (.inl (PyProof.noPylong_of_log2 lg))
      · cases e2
end
end DL
namespace DL
open PySem PySem.Spec PyProof.Rows L2
def frzD:Sl→Sl
  | .own xs => .val (.lst xs)
  | .dp d => .val d
  | s=>s
def frzT (t:Th) (i:Nat):Th:=match t[i]? with
  | some s=>t.set i (frzD s)
  | none=>t
theorem frzT_succ (s:Sl) (t:Th) (i:Nat):frzT (s :: t) (i + 1)=s :: frzT t i:=by
  unfold frzT
  simp only [List.getElem?_cons_succ]
  cases t[i]? <;> simp
theorem RSl.give {K:PySem.W.Frag} {H0 H:Hp}:∀ {t:Th} {σ:L2.St} {A:List Addr} (i:Nat),RSl K H0 H t σ A→A.Nodup→∃ (B A':List Addr),A'.Sublist A∧(∀ b ∈ B,b ∈ A∧b ∉ A')∧∀ H1,Same H0 H1→(∀ b ∈ B, ∀ o,H b=some o→H1 b=some o)→RSl K H1 H (frzT t i) σ A'
  | _,_,_,i, .nil,_=>⟨[],[],List.Sublist.refl _,fun b hb=>(by cases hb),fun H1 e _=>by simpa [frzT] using RSl.nil⟩
  | _,_,A,0, .no r,n=>⟨[],A,List.Sublist.refl _,fun b hb=>(by cases hb),fun H1 e _ => .no (RSl.mono e r fun _ _ _ h=>h)⟩
  | _,_,A,0, .val h r,n=>⟨[],A,List.Sublist.refl _,fun b hb=>(by cases hb),fun H1 e _ => .val (Rep.mono e h) (RSl.mono e r fun _ _ _ h=>h)⟩
  | _,_,_,0, .own (p:=p) (A:=A) h1 h2 r,n=>by
    have n0:=List.nodup_cons.mp n
    refine ⟨[p],A,List.sublist_cons_self _ _,fun b hb=>?_,fun H1 e k=>?_⟩
    · simp at hb; subst hb; exact ⟨List.mem_cons_self ..,n0.1⟩
    · exact .val (.lst (SqL.of (k p (by simp) _ h1)) (Reps.mono e h2)) (RSl.mono e r fun _ _ _ h=>h)
  | _,_,_,0, .dp (B:=B) (A:=A) h r,n=>by
    have n0:=List.nodup_append.mp n
    refine ⟨B,A,List.sublist_append_right _ _,fun b hb=>⟨List.mem_append_left _ hb,fun z=>n0.2.2 b hb b z rfl⟩,fun H1 e k=>?_⟩
    exact .val (h.rep e k) (RSl.mono e r fun _ _ _ h=>h)
  | _,_,_,i + 1, .no r,n=>by
    obtain ⟨B,A',a1,a2,a3⟩:=RSl.give i r n
    refine ⟨B,A',a1,a2,fun H1 e k=>?_⟩
    rw [frzT_succ]; exact .no (a3 H1 e k)
  | _,_,_,i + 1, .val h r,n=>by
    obtain ⟨B,A',a1,a2,a3⟩:=RSl.give i r n
    refine ⟨B,A',a1,a2,fun H1 e k=>?_⟩
    rw [frzT_succ]; exact .val (Rep.mono e h) (a3 H1 e k)
  | _,_,_,i + 1, .own (p:=p) h1 h2 r,n=>by
    have n0:=List.nodup_cons.mp n
    obtain ⟨B,A',a1,a2,a3⟩:=RSl.give i r n0.2
    refine ⟨B,p :: A',a1.cons₂ _,fun b hb=>⟨List.mem_cons_of_mem _ (a2 b hb).1,fun z=>?_⟩,fun H1 e k=>?_⟩
    · rcases List.mem_cons.mp z with w | w
      · exact n0.1 (w ▸ (a2 b hb).1)
      · exact (a2 b hb).2 w
    · rw [frzT_succ]; exact .own h1 (Reps.mono e h2) (a3 H1 e k)
  | _,_,_,i + 1, .dp (B:=C) h r,n=>by
    have n0:=List.nodup_append.mp n
    obtain ⟨B,A',a1,a2,a3⟩:=RSl.give i r n0.2.1
    refine ⟨B,C ++ A',List.Sublist.append (List.Sublist.refl _) a1,fun b hb=>⟨List.mem_append_right _ (a2 b hb).1,fun z=>?_⟩,fun H1 e k=>?_⟩
    · rcases List.mem_append.mp z with w | w
      · exact n0.2.2 b w b (a2 b hb).1 rfl
      · exact (a2 b hb).2 w
    · rw [frzT_succ]; exact .dp (RepD.mono e h fun _ _ _ w=>w) (a3 H1 e k)
theorem RS.give {K:PySem.W.Frag} {F A:List Addr} {H:Hp} {t:Th} {σ:L2.St} (R:RS K F H A t σ) (i:Nat):∃ A',RS K F H A' (frzT t i) σ∧Gr A H A' H:=by
  obtain ⟨B,A',a1,a2,a3⟩:=R.rel.give i R.nd
  have sub:∀ x ∈ A',x ∈ A:=fun x hx=>a1.subset hx
  refine ⟨A',⟨fun q hq=>R.mu q ((List.mem_append.mp hq).elim (fun z=>List.mem_append_left _ (sub q z)) fun z=>List.mem_append_right _ z),R.nd.sublist a1,fun p hp=>R.dj p (sub p hp),a3 _ (hide_less H fun a z=>(List.mem_append.mp z).elim (fun z=>List.mem_append_left _ (sub a z)) fun z=>List.mem_append_right _ z) fun b hb o h=>hide_get h fun z=>?_⟩,⟨fun _ _ _ h=>h,fun b hb=>?_,fun b hb => .inl (sub b hb)⟩⟩
  · rcases List.mem_append.mp z with w | w
    · exact (a2 b hb).2 w
    · exact R.dj b (a2 b hb).1 w
  · obtain ⟨vs,q⟩:=R.mu b (List.mem_append_left _ hb)
    rw [q]; simp
def dFrz (i:Nat) (g:DS):DS:=fun t=>g (frzT t i)
theorem dS_frz {K:PySem.W.Frag} {F:List Addr} {g:DS} {i:Nat} {E:Ends} {σ:L2.St} {H:Hp} (h:dS K F (dFrz i g) E σ H):dS K F g E σ H:=by
  obtain ⟨A,t,o,R,e,p⟩:=dS_of h
  obtain ⟨A',R',gr⟩:=R.give i
  exact dS_mk R' e (p.back gr)
theorem psd_frz {X:Cx} {F:List Addr} {g:DS} {st:Stmt} (i:Nat) (h:PS X st (dS X.K F g)):PS X st (dS X.K F (dFrz i g)):=PS.imp h fun _ _ _ q=>dS_frz q
section
variable {X:Cx} {F:List Addr} {a b c o:Expr} {es:List Expr} {fa fb fc:DE} {ga:DA} {pos:Pos}
def dChV (k k':Ev→Ev→Option Ev) (fa fb fc:DE):DE:=fun t=>(dCh k k' fa fb fc t).map fun z => .cl (.bl z)
theorem ped_chain {op op':CmpOp} {k k':Ev→Ev→Option Ev} (ho:OpD X F (compareOp op) k) (ho':OpD X F (compareOp op') k') (ha:PE X a (dE X.K F fa)) (hb:PE X b (dE X.K F fb)) (hc:PE X c (dE X.K F fc))
    (hm:lastMarks [op,op'] [b,c]=false:=by with_unfolding_all rfl):PE X (.Compare a [op,op'] [b,c] pos) (dE X.K F (dChV k k' fa fb fc)):=by
  intro pins s σ H Q I h
  obtain ⟨A,t,rr,R,e,h⟩:=h
  refine pe_chain (ho.toR A H) (ho'.toR A H) ha hb hc hm pins s σ H Q I ?_
  unfold dChV dCh at e
  cases e1:fa t with
  | none=>rw [e1] at e; cases e
  | some r1 =>
    cases e2:fb t with
    | none=>rw [e1,e2] at e; cases e
    | some r2 =>
      cases e3:k r1 r2 with
      | none=>rw [e1,e2] at e; simp only [Option.bind_some,e3] at e; cases e
      | some r =>
        rw [e1,e2] at e
        simp only [Option.bind_some,e3] at e
        refine ⟨A,t,r1,R,e1,fun x H1 gs1 q1=>⟨A,t,r2,R.grow gs1,e2,fun y H2 gs2 q2=>?_⟩⟩
        have gs:=gs1.trans gs2
        refine ⟨R.mu,gs,r1,r2,r,q1.mono gs2,q2.back gs1,e3,fun z H3 gs3 q3=>?_⟩
        have p:=q3.full
        split at e
        · rename_i zz
          rw [zz] at p
          cases p
          refine ⟨true,rfl,iteT ?_⟩
          cases e4:fc t with
          | none=>rw [e4] at e; cases e
          | some r3 =>
            rw [e4] at e
            simp only [Option.bind_some] at e
            cases e5:k' r2 r3 with
            | none=>rw [e5] at e; cases e
            | some r' =>
              rw [e5] at e
              simp only [Option.bind_some] at e
              refine ⟨A,t,r3,(R.grow gs).grow gs3,e4,fun w H4 gs4 q4=>⟨R.mu,(gs.trans gs3).trans gs4,r2,r3,r',(q2.back gs1).mono (gs3.trans gs4),q4.back (gs.trans gs3),e5,fun z2 H5 gs5 q5=>?_⟩⟩
              have p5:=q5.full
              split at e
              · rename_i z3 zz3
                cases e
                rw [zz3] at p5
                cases p5
                exact h _ H5 (((gs.trans gs3).trans gs4).trans gs5) (.bl _)
              · cases e
        · rename_i zz
          rw [zz] at p
          cases p
          cases e
          exact ⟨false,rfl,iteF (h _ H3 (gs.trans gs3) (.bl _))⟩
        · cases e
end
end DL
namespace L2
open PySem PySem.W PyProof.Rows
def bndS:Nat:=2 ^ 1048576
theorem weight_mem:∀ {ns:List Int} {n:Int},n ∈ ns→WData.weight (.int n) ≤ WData.weightAll (ns.map WData.int)
  | m :: r,n,h=>by
    rw [List.map_cons]
    unfold WData.weightAll
    rcases List.mem_cons.mp h with rfl | z
    · omega
    · have:=weight_mem z; omega
theorem bnd_of {ns:List Int} (h:WData.layableAll [WData.list (ns.map WData.int)]=true):∀ n ∈ ns,n.natAbs < bndS:=fun n hn=>by
  have h1:WData.layable (WData.list (ns.map WData.int))=true:=by simpa [WData.layableAll] using h
  have h2:WData.weight (WData.list (ns.map WData.int)) ≤ 2 ^ 20:=by
    unfold WData.layable at h1
    simp only [Bool.and_eq_true,decide_eq_true_eq] at h1
    exact h1.2
  have h3:WData.weight (.int n) ≤ 2 ^ 20:=by
    refine Nat.le_trans (weight_mem hn) ?_
    have e:WData.weight (WData.list (ns.map WData.int))=WData.weightAll (ns.map WData.int):=by simp [WData.weight]
    rw [← e]; exact h2
  by_cases z:n=0
  · subst z; unfold bndS; exact Nat.pow_pos (by decide)
  · have h4:n.natAbs.log2 + 1 ≤ 2 ^ 20:=by
      have:WData.weight (.int n)=n.natAbs.log2 + 1:=by simp [WData.weight,z]
      rw [← this]; exact h3
    have h5:n.natAbs.log2 < 1048576:=by omega
    exact (Nat.log2_lt (by omega)).mp h5
end L2
namespace DL
open PySem PySem.Spec PyProof.Rows L2
section
variable {X:Cx} {F:List Addr} {a b c o:Expr} {es:List Expr} {fa fb fc:DE} {ga:DA} {pos:Pos}
theorem Reps.erase {K:PySem.W.Frag} {H:Hp}:∀ {ds:List D} {vs:List V} (j:Nat),Reps K H ds vs→Reps K H (ds.eraseIdx j) (vs.eraseIdx j)
  | _,_,_, .nil => .nil
  | _,_,0, .cons _ rs=>rs
  | _,_,j + 1, .cons r rs => .cons r (Reps.erase j rs)
end
end DL
namespace DL
open PySem PySem.Spec PyProof.Rows L2
def spM (K:PySem.W.Frag) (G:List D→Option Ev):Sp:=fun vs H Q _ => ∃ (Fo:List Addr) (p:Addr) (ws vs':List V) (xs ds:List D) (d:D),vs = .ref p :: vs'∧Lists H (p :: Fo)∧p ∉ Fo∧H p=some (.lst ws)∧Reps K (hide (p :: Fo) H) xs ws∧Reps K (hide (p :: Fo) H) ds vs'∧G (.lst xs :: ds)=some (.cl d)∧scD d=true ∧
  ∀ v H',(∀ b o,b ≠ p→H b=some o→H' b=some o)→H' p ≠ none→(∀ Hx,Rep K Hx d v)→Q v H'
structure CalM (P:Program) (w:World) (K:PySem.W.Frag) (mg:Str→Option Value) (base:BHeap) (x:Str) (k:Nat) (G:List D→Option Ev):Prop where
  ex:∃ (a:Addr) (fd:FuncData) (ps:List Str),mg x=some (.ref a)∧PySem.W.keepIn K (.ref a)=true∧L2.Binds K fd ps []∧FnOk P w K mg base CX0 k a fd ps (spM K G)
def sV:D→V
  | .bl b => .bl b
  | .int i => .int i
  | .str x => .str x
  | _ => .non
theorem rep_sc {K:PySem.W.Frag} {H:Hp} {d:D} {v:V} (r:Rep K H d v) (s:scD d=true):v=sV d:=by
  cases r with
  | non=>rfl
  | bl b=>rfl
  | int i=>rfl
  | str x=>rfl
  | tup _ _=>cases s
  | lst _ _=>cases s
  | dct _ _ _=>cases s
  | pdc _=>cases s
theorem sc_rep {K:PySem.W.Frag} {H:Hp}:∀ {d:D},scD d=true→Rep K H d (sV d)
  | .non,_ => .non
  | .bl b,_ => .bl b
  | .int i,_ => .int i
  | .str x,_ => .str x
  | .tup _,s=>by cases s
  | .lst _,s=>by cases s
  | .dct _ _,s=>by cases s
  | .pdc _,s=>by cases s
theorem sc_flatD:∀ {d:D},scD d=true→flat d=true
  | .non,_=>rfl
  | .bl b,_=>rfl
  | .int i,_=>rfl
  | .str x,_=>rfl
  | .tup _,s=>by cases s
  | .lst _,s=>by cases s
  | .dct _ _,s=>by cases s
  | .pdc _,s=>by cases s
theorem repds_sc {K:PySem.W.Frag} {H0 H:Hp}:∀ {ds:List D} {vs:List V} {B:List Addr},RepDs K H0 H ds vs B→ds.all scD=true→vs=ds.map sV∧B=[]
  | _,_,_, .nil,_=>⟨rfl,rfl⟩
  | _,_,_, .cons h r,s=>by
    simp only [List.all_cons,Bool.and_eq_true] at s
    obtain ⟨a,b⟩:=repds_sc r s.2
    subst a b
    cases h with
    | flat f q=>rw [rep_sc q s.1]; exact ⟨rfl,rfl⟩
    | tup _ _=>exact absurd s.1 (by simp [scD])
    | lst _ _=>exact absurd s.1 (by simp [scD])
    | dct _ _ _=>exact absurd s.1 (by simp [scD])
    | pdc _=>exact absurd s.1 (by simp [scD])
theorem sc_repds {K:PySem.W.Frag} {H0 H:Hp}:∀ {ds:List D},ds.all scD=true→RepDs K H0 H ds (ds.map sV) []
  | [],_ => .nil
  | d :: ds,s=>by
    simp only [List.all_cons,Bool.and_eq_true] at s
    exact .cons (B:=[]) (C:=[]) (.flat (sc_flatD s.1) (sc_rep s.1)) (sc_repds s.2)
section
variable {X:Cx} {F:List Addr} {a b c o:Expr} {es:List Expr} {fa fb fc:DE} {ga:DA} {pos:Pos}
def kIsntB:Ev→Ev→Option Ev:=fun r1 r2=>match r1.d,r2.d with
  | .bl p, .bl q=>some (.cl (.bl (!(p == q))))
  | _,_=>none
theorem od_isntB:OpD X F (compareOp .IsNot) kIsntB:=by
  intro pins s σ H0 H A x y v u Q r1 r2 r I m g0 rx ry q1 q2 e hq
  unfold kIsntB at e
  split at e
  · rename_i p q z1 z2
    cases e
    have p1:=q1.full
    have p2:=q2.full
    rw [z1] at p1; rw [z2] at p2
    cases rep_bl p1; cases rep_bl p2
    cases rx; cases ry
    refine PySem.wpAny_isNot_plain (by cases p <;> cases q <;> rfl) ⟨.bl (!(p == q)),H,I,?_,hq _ H (Same.refl H) (.bl _)⟩
    show Value.bool _=Value.bool _
    cases p <;> cases q <;> rfl
  · cases e
end
end DL
namespace DL
open PySem PySem.Spec PyProof.Rows L2
theorem Reach.mono {K:PySem.W.Frag} {H H':Hp} (g:Same H H') {w:V}:∀ {ns:List Int} {v:V},Reach K H v ns w→Reach K H' v ns w
  | [],v,h=>h
  | n :: ns,v,h=>by
    obtain ⟨p,vs,x,e,h1,h2,h3⟩:=h
    refine ⟨p,vs,x,e,?_,h2,Reach.mono g h3⟩
    rcases h1 with h1 | h1
    · exact .inl (SqL.mono g h1)
    · exact .inr (SqT.mono g h1)
theorem all_set {j:Nat} {d:D} (hd:scD d=true):∀ {ds:List D} {j:Nat},ds.all scD=true→(ds.set j d).all scD=true
  | [],j,_=>by simp
  | x :: ds,0,h=>by
    simp only [List.all_cons,Bool.and_eq_true] at h
    simp only [List.set_cons_zero,List.all_cons,hd,h.2,Bool.and_true]
  | x :: ds,j + 1,h=>by
    simp only [List.all_cons,Bool.and_eq_true] at h
    simp only [List.set_cons_succ,List.all_cons,h.1,Bool.true_and]
    exact all_set (j:=j) hd h.2
section
variable {X:Cx} {F:List Addr} {a b c o:Expr} {es:List Expr} {fa fb fc:DE} {fs:List DE} {pos:Pos}
def kSetP (t:Th) (i:Nat) (ns:List Int) (r k:Ev):Option Out:=match t[i]? with
  | some (.dp d)=>match getP d ns,k.d with
    | some (.lst ds), .int n=>if ds.all scD && scD r.d then (ixN ds.length n).bind fun j=>(putP d ns (.lst (ds.set j r.d))).map fun d2 => .nx (t.set i (.dp d2)) else none
    | _,_=>none
  | _=>none
def dSetP (i:Nat) (fs:List DE) (fk fv:DE):DS:=fun t=>(fv t).bind fun r=>(pthD fs t).bind fun ns=>(fk t).bind fun k=>kSetP t i ns r k
theorem psd_setP (i:Nat) {tpos:Pos} (ho:PE X o (plE X.K F i fs)) (hb:PE X b (dE X.K F fb)) (he:PE X a (dE X.K F fa))
    (ha:∀ v,assign (.Subscript o b tpos) X.env v=(do
      let ov ← holding [v] (eval o X.env)
      let iv ← holding [v,ov] (eval b X.env)
      standAt tpos
      holding [v,ov,iv] (setItem ov iv v)
      release [v,ov,iv] []):=by intro _; rfl)
    (hs:swapsWithSole [.Subscript o b tpos] a pos.line X.env=pure false:=by rfl) (hw:swappedStores [.Subscript o b tpos] a X.env=pure none:=by rfl)
    (h1:(assignEach [.Subscript o b tpos] X.env).map (·.2)=[assign (.Subscript o b tpos) X.env]:=by rfl) :
    PS X (.Assign [.Subscript o b tpos] a pos) (dS X.K F (dSetP i fs fb fa)):=by
  refine PS.imp (ps_asg he (pg_sub ho hb set_list ha) hs hw h1) ?_
  rintro E σ H ⟨A,t,o',R,e,h⟩
  unfold dSetP at e
  cases e1:fa t with
  | none=>rw [e1] at e; cases e
  | some r =>
  cases e0:pthD fs t with
  | none=>rw [e1,e0] at e; cases e
  | some ns =>
  cases e2:fb t with
  | none=>rw [e1,e0,e2] at e; cases e
  | some kk =>
    rw [e1,e0,e2] at e
    have e:kSetP t i ns r kk=some o':=e
    unfold kSetP at e
    split at e
    case h_2=>cases e
    rename_i d z
    split at e
    case h_2=>cases e
    rename_i ds n z1 z2
    split at e
    case isFalse=>cases e
    rename_i ok
    simp only [Bool.and_eq_true] at ok
    cases e4:ixN ds.length n with
    | none=>rw [e4] at e; cases e
    | some j =>
      rw [e4] at e
      simp only [Option.bind_some] at e
      cases e3:putP d ns (.lst (ds.set j r.d)) with
      | none=>rw [e3] at e; cases e
      | some d2 =>
        rw [e3] at e
        cases e
        obtain ⟨v,p,vs1,B1,a1,a2,a3,a4,a5,a6,a7⟩:=R.place z z1
        obtain ⟨rfl,rfl⟩:=repds_sc a4 ok.1
        refine ⟨A,t,r,R,e1,fun y H1 gs1 q1=>⟨A,t,v,ns, .ref p,R.grow gs1,e0,a1,a2.mono gs1,fun H2 gs2=>⟨A,t,kk,(R.grow gs1).grow gs2,e2,fun w H3 gs3 q2=>?_⟩⟩⟩
        have p2:=q2.full
        rw [z2] at p2
        cases rep_int p2
        have ey:=rep_sc q1.full ok.2
        subst ey
        have gs:=(gs1.trans gs2).trans gs3
        refine ⟨p,_,n,j,rfl,rfl,gs _ _ a3,by rw [List.length_map]; exact e4,?_⟩
        obtain ⟨A2,R2,gr⟩:=a7 H3 (ds.set j r.d) ((ds.set j r.d).map sV) [] d2 gs (fun H' k hh=>sc_repds (all_set (j:=j) ok.2 ok.1)) (List.nil_sublist _) e3
        rw [List.map_set] at R2 gr
        exact h _ _ _ gr R2
end
end DL
namespace DL
open PySem PySem.Spec PyProof.Rows L2
section
variable {X:Cx} {F:List Addr} {a b c o:Expr} {es:List Expr} {fa fb fc:DE} {ga:DA} {pos pos1:Pos}
def spP (G:List (Int × Int)→List Int→Option (List (Int × Int))):Sp:=fun vs H Q _ => ∃ (p:Addr) (ps ps':List (Int × Int)) (ns:List Int),vs = .ref p :: ns.map V.int∧H p=some (.dT (pkv ps))∧G ps ns=some ps' ∧
  ∀ H',(∀ b o,b ≠ p→H b=some o→H' b=some o)→H' p=some (.dT (pkv ps'))→Q .non H'
structure CalP (P:Program) (w:World) (K:PySem.W.Frag) (mg:Str→Option Value) (base:BHeap) (x:Str) (k:Nat) (G:List (Int × Int)→List Int→Option (List (Int × Int))):Prop where
  ex:∃ (a:Addr) (fd:FuncData) (ps:List Str),mg x=some (.ref a)∧PySem.W.keepIn K (.ref a)=true∧L2.Binds K fd ps []∧FnOk P w K mg base CX0 k a fd ps (spP G)
end
end DL
namespace DL
open PySem PySem.Spec PyProof.Rows L2
section
variable {X:Cx} {F:List Addr} {e1 e2 c o ke kv:Expr} {pos:Pos}
def fP1:DE:=(d2 (kI cMod fun i j => .int (i.fmod j)) (dVar 2) (dVar 1))
def fP2:DE:=(d2 (kI cMod fun i j => .int (i.fmod j)) (d2 (kI cDiv fun i j => .int (i.fdiv j)) (dVar 2) (dVar 1)) (dVar 1))
end
end DL
namespace L2
open PySem PySem.Spec PySem.W PyProof.Rows
def lamOf (x:Str):Str:=x ++ ".<locals>." ++ "<lambda>"
theorem mem_lookN {β:Type}:∀ {l:List (Nat × β)} {a:Nat} {o:β},l.lookup a=some o→(a,o) ∈ l
  | [],_,_,e=>by cases e
  | (b,x) :: r,a,o,e=>by
    rw [List.lookup_cons] at e
    cases hb:a == b with
    | true=>rw [hb] at e; cases e; rw [eq_of_beq hb]; exact .head _
    | false=>rw [hb] at e; exact .tail _ (mem_lookN e)
def tbOf (K:Frag) (names:List Str):List (Addr × Str):=names.filterMap fun x=>(tabIn K x).map fun q=>(q.2,lamOf x)
theorem of_tbOf {K:Frag} {names:List Str} {p:Addr × Str} (h:p ∈ tbOf K names):∃ x ∈ names, ∃ c,tabIn K x=some (c,p.1):=by
  obtain ⟨x,hx,e⟩:=List.mem_filterMap.mp h
  cases q:tabIn K x with
  | none=>rw [q] at e; cases e
  | some r=>rw [q] at e; cases e; exact ⟨x,hx,r.1,q⟩
def TbOk (K:Frag) (names:List Str):Prop := ∀ p ∈ tbOf K names,(tbOf K names).lookup p.1=some p.2∧K.lookup p.1=none
theorem tbOk_nil {K:Frag}:TbOk K []:=fun p hp=>by cases hp
theorem law_callT {P:Program} {w:World} {K:Frag} {mg mb:Str→Option Value} {CX:CXT} {k:Nat} {fa a:Addr} {fd:FuncData} {x:Str} {sp:Sp} {s₁:Shared} {vs:List Value} {ns:List Int} {names:List Str}
    (KX:K.In s₁.heap) (hns:s₁.heap.Ns mainGlobals mg) (hb:s₁.heap.Ns builtinsNs mb) (hbb:∀ x:Str,x ≠ "__name__"→mb x=bootBuiltins x) (hlim:s₁.heap.NoLimit)
    (hbm:∃ (bm:Addr) (ob:Obj),mg "__builtins__"=some (.ref bm)∧bm ≠ builtinsNs∧s₁.heap.get? bm=some ob∧ob.cls = .type "module"∧ob.dict=some builtinsNs∧ob.data = .plain) (hg:s₁.gens = #[])
    (ha:s₁.heap.get? a=some { cls := .type "list",data := .seq vs.toArray }) (hi:IntsAre vs ns) (hl:ns.length ≤ sizeLine) (hr:Room k callerA)
    (hT:∀ x ∈ names, ∀ c P,tabIn K x=some (c,P)→CodeHd s₁.heap c P∧s₁.heap.get? P=some (tabObj #[])) (hn:TbOk K names)
    (F:∀ base:BHeap,base.tabs=tbOf K names→K.In base→base.Ns mainGlobals mg→(∀ x ∈ names, ∀ c P,tabIn K x=some (c,P)→CodeHd base c P)→FnOk P w K mg base CX k fa fd [x] sp)
    (hbind:∀ (s:Shared) (u:Value),BindsTo s fd ⟨[u],[]⟩ [(x,u)]) (hsp:∀ H:Hp,SqL K H a (ns.map V.int)→sp [.ref a] H (fun v _=>v = .bl true) fun _ _ _=>False)
    (hCX:∀ H e s',CX [] H s₁ (fun _ _ _=>False) e s'→False) :
    codeAny (model P w) callerA (.call (.ref fa) ⟨[.ref a],[]⟩) (fun r s'=>r = .ok (.ret (.bool true))∧OldK s₁.heap s'.heap∧s'.os=s₁.os∧AllBare s'.gens) s₁:=by
  have rv:=vals_ints hi
  have lenV:=hi.length
  have tabH:∀ p ∈ tbOf K names, ∃ c,CodeHd s₁.heap c p.1∧s₁.heap.get? p.1=some (tabObj #[]):=fun p hp=>by
    obtain ⟨y,hy,c,e⟩:=of_tbOf hp
    exact ⟨c,hT y hy c p.1 e⟩
  have core:∀ H:Hp,SqL K H a (ns.map V.int)→HOk P w H s₁.heap→(∀ p ∈ tbOf K names,H p.1=some (.tbl p.2)) →
      (∀ b o,H b=some o→(b=a∧K.lookup a=none∧∃ ob xs,o = .frz ob (.lst xs)) ∨ ∃ q,o = .tbl q∧(b,q) ∈ tbOf K names) →
      codeAny (model P w) callerA (.call (.ref fa) ⟨[.ref a],[]⟩) (fun r s'=>r = .ok (.ret (.bool true))∧OldK s₁.heap s'.heap∧s'.os=s₁.os∧AllBare s'.gens) s₁:=by
    intro H hS hok hTB hH
    have free:∀ {b:Addr} {o:Obj},s₁.heap.get? b=some o→(o.cls = .type "list"→False)→o ≠ tabObj #[]→H b=none:=fun {b o} e n1 n2=>by
      cases q:H b with
      | none=>rfl
      | some u =>
        rcases hH b u q with ⟨rfl,_⟩ | ⟨qq,rfl,hm⟩
        · rw [ha] at e; cases e; exact (n1 rfl).elim
        · obtain ⟨c,_,e2⟩:=tabH _ hm
          have e2:s₁.heap.get? b=some (tabObj #[]):=e2
          rw [e] at e2; cases e2; exact (n2 rfl).elim
    have nsK:∀ {b:Addr} {m:Str→Option Value},s₁.heap.Ns b m→(hidT s₁.heap H).Ns b m:=fun {b m} ⟨o,es,ep,e,d,r⟩=>⟨o,es,ep,hidT_get e (by
      cases q:H b with
      | none=>rfl
      | some u =>
        rcases hH b u q with ⟨rfl,_⟩ | ⟨qq,rfl,hm⟩
        · rw [ha] at e; cases e; cases d
        · obtain ⟨c,_,e2⟩:=tabH _ hm
          have e2:s₁.heap.get? b=some (tabObj #[]):=e2
          rw [e] at e2; cases e2; cases d),d,r⟩
    have hKb:K.In (hidT s₁.heap H):=fun b o e=>hidT_get (KX b o e) (by
      cases q:H b with
      | none=>rfl
      | some u =>
        rcases hH b u q with ⟨rfl,n,_⟩ | ⟨qq,rfl,hm⟩
        · rw [n] at e; cases e
        · have n:K.lookup b=none:=(hn _ hm).2
          rw [n] at e; cases e)
    have hM:Mod K mg ⟨hidT s₁.heap H,tbOf K names⟩:=⟨hKb,nsK hns,⟨mb,nsK hb,hbb⟩,let ⟨mc,h1,h2⟩:=hlim; ⟨mc,nsK h1,h2⟩,by
      obtain ⟨bm,ob,b1,b2,b3,b4,b5,b6⟩:=hbm
      exact ⟨bm,ob,b1,b2,hidT_get b3 (free b3 (fun z=>by rw [b4] at z; simp at z) fun z=>by rw [z] at b4; cases b4),b4,b5,b6⟩⟩
    have hCd:∀ x ∈ names, ∀ c P,tabIn K x=some (c,P)→CodeHd (hidT s₁.heap H) c P:=fun x hx c P e=>by
      obtain ⟨⟨o,vs,file,tf,flags,tg,inF,text,tt,e1,r1,r⟩,_⟩:=hT x hx c P e
      exact ⟨o,vs,file,tf,flags,tg,inF,text,tt,hidT_get e1 (free e1 (fun z=>by rw [r1] at z; simp at z) fun z=>by rw [z] at r1; cases r1),r1,r⟩
    have e0:Env0 P w K mg ⟨hidT s₁.heap H,tbOf K names⟩ callerA [] s₁ H:=⟨rfl,hM,fun b o e=>of_hidT e,Nat.le_of_eq (hidT_size _ _),trivial,fun b hb=>absurd (show b ∈ ([]:List Addr) from hb) (by simp),hok, .of_eq hg,hTB⟩
    refine codeAny_mono ((F ⟨hidT s₁.heap H,tbOf K names⟩ rfl hKb (nsK hns) hCd).run callerA [] s₁ H ⟨[.ref a],[]⟩ [.ref a] [.ref a] _ _ hr e0 (hbind s₁ (.ref a)) (.cons rfl .nil) (hsp H hS)) fun r s' h=>?_
    cases r with
    | error e=>exact (hCX H e s' h).elim
    | ok fl =>
      cases fl with
      | next=>exact False.elim h
      | brk=>exact False.elim h
      | cont=>exact False.elim h
      | ret u =>
        obtain ⟨v,H',os,bare,un,hok',r',q⟩:=h
        have q':v = .bl true:=q
        subst q'
        obtain rfl:u=Value.bool true:=r'
        have kp:∀ b o,s₁.heap.get? b=some o→s'.heap.get? b=some o ∨ ∃ qq,H b=some (.tbl qq):=fun b o e=>by
          cases q:H b with
          | none=>exact .inl (un.keep b o e q (by intro z; exact absurd (show b ∈ ([]:List Addr) from z) (by simp)) (by simp))
          | some u =>
            rcases hH b u q with ⟨rfl,_,ob,xs,rfl⟩ | ⟨qq,rfl,hm⟩
            · obtain ⟨e1,_⟩:=hok b _ q
              obtain ⟨e2,_⟩:=hok' b _ (un.frzs b ob _ q)
              rw [e] at e1; cases e1
              exact .inl e2
            · exact .inr ⟨qq,rfl⟩
        refine ⟨rfl,⟨fun b o e=>?_,fun b o e=>?_⟩,os,bare⟩
        · rcases kp b o e with z | ⟨qq,z⟩
          · exact .inl z
          · rcases hH b _ z with ⟨_,_,ob,xs,z2⟩ | ⟨q2,z2,hm⟩
            · cases z2
            · obtain ⟨c,C,e2⟩:=tabH _ hm
              have e2:s₁.heap.get? b=some (tabObj #[]):=e2
              rw [e] at e2
              cases e2
              obtain ⟨ps,e3,_⟩:=hok' b _ (un.tbls b _ z)
              have C:CodeHd s₁.heap c b:=C
              exact .inr (.inl ⟨(C.tab e).isCodeTable,rfl, #[],ps,rfl,by simpa using e3⟩)
        · rcases kp b o e with z | ⟨qq,z⟩
          · exact ⟨o,z⟩
          · obtain ⟨ps,e3,_⟩:=hok' b _ (un.tbls b _ z)
            exact ⟨_,e3⟩
  have tabO:∀ (H:Hp) (p:Addr × Str),p ∈ tbOf K names→ObjOk P w H s₁.heap p.1 (.tbl p.2):=fun H p hp=>by
    obtain ⟨c,_,e⟩:=tabH p hp
    exact ⟨#[],e,trivial,fun pos cv z=>by cases z⟩
  have lk:∀ b q,(tbOf K names).lookup b=some q→(b,q) ∈ tbOf K names:=fun b q e=>mem_lookN e
  have aT:∀ q,(a,q) ∈ tbOf K names→False:=fun q hm=>by
    obtain ⟨c,_,e⟩:=tabH _ hm
    have e:s₁.heap.get? a=some (tabObj #[]):=e
    rw [ha] at e; cases e
  cases hk:K.lookup a with
  | some o =>
    have e:=KX a o hk
    rw [ha] at e
    cases e
    refine core (fun b=>((tbOf K names).lookup b).map HO.tbl) (.inr ⟨_,vs.toArray,_,hk,rfl,rfl,rfl,by rw [List.size_toArray,lenV]; exact hl,by simpa using rv⟩) (fun b u z=>?_) (fun p hp=>by simp only [(hn p hp).1,Option.map_some]) fun b u z=>?_
    · cases q:(tbOf K names).lookup b with
      | none=>simp only [q] at z; cases z
      | some qq=>simp only [q] at z; cases z; exact tabO _ _ (lk b qq q)
    · cases q:(tbOf K names).lookup b with
      | none=>simp only [q] at z; cases z
      | some qq=>simp only [q] at z; cases z; exact .inr ⟨qq,rfl,lk b qq q⟩
  | none =>
    refine core (fun b=>if b=a then some (.frz { cls := .type "list",data := .seq vs.toArray } (.lst (ns.map V.int))) else ((tbOf K names).lookup b).map HO.tbl) (.inl (.inr ⟨{ cls := .type "list",data := .seq vs.toArray },if_pos rfl⟩)) (fun b u z=>?_) (fun p hp=>?_) fun b u z=>?_
    · by_cases hb:b=a
      · have z':=(if_pos hb).symm.trans z
        cases z'
        subst hb
        exact ⟨ha,by rw [List.length_map]; exact hl,vs,_,rv,ha⟩
      · have z':=(if_neg hb).symm.trans z
        cases q:(tbOf K names).lookup b with
        | none=>simp only [q] at z'; cases z'
        | some qq=>simp only [q] at z'; cases z'; exact tabO _ _ (lk b qq q)
    · have:p.1 ≠ a:=fun e=>aT p.2 (by rw [← e]; exact hp)
      simp only [this,if_false,(hn p hp).1,Option.map_some]
    · by_cases hb:b=a
      · have z':=(if_pos hb).symm.trans z
        cases z'
        exact .inl ⟨hb,hk,_,_,rfl⟩
      · have z':=(if_neg hb).symm.trans z
        cases q:(tbOf K names).lookup b with
        | none=>simp only [q] at z'; cases z'
        | some qq=>simp only [q] at z'; cases z'; exact .inr ⟨qq,rfl,lk b qq q⟩
end L2
namespace L2
open PySem PySem.W PyProof.Rows
theorem walk_ofT {l:PySem.W.OpenLaw} {n k:Nat} {q:Program} {loose:List Str} {XP:(Str→Option Value)→Heap→Prop} {YP:World→Heap→Prop} {d:DefRec} {K:Params→PySem.W.Frag} {CX:World→CXT} {sp:World→Sp} {x:Str} {names:List Str}
    (hn:l.most=some n) (hn2:n ≤ sizeLine) (hdf:d.params.defaults=[]) (hr:Room k callerA)
    (hY:∀ (w:World) (h:Heap),YP w h→(K w.params).In h) (hrec:∀ x ∈ names, ∃ dr,(recsOf q).find? (fun e=>e.name == x)=some dr)
    (F:∀ (w:World) (mg:Str→Option Value) (fa:Addr) (h:Heap),(K w.params).In h→h.Ns mainGlobals mg→mg d.name=some (.ref fa) →
      TbOk (K w.params) names∧∃ fd:FuncData,(∀ (s:Shared) (u:Value),BindsTo s fd ⟨[u],[]⟩ [(x,u)]) ∧
        ∀ base:BHeap,base.tabs=tbOf (K w.params) names→(K w.params).In base→base.Ns mainGlobals mg→(∀ x ∈ names, ∀ c P,tabIn (K w.params) x=some (c,P)→CodeHd base c P)→FnOk l.prog w (K w.params) mg base (CX w) k fa fd [x] (sp w))
    (hsp:∀ (w:World) (H:Hp) (a:Addr) (ns:List Int),ns.length ≤ n→(∀ i ∈ ns,i.natAbs < bndS)→SqL (K w.params) H a (ns.map V.int)→sp w [.ref a] H (fun v _=>v = .bl true) fun _ _ _=>False)
    (hCX:∀ (w:World) (H:Hp) (s:Shared) (e:Value) (s':Shared),CX w [] H s (fun _ _ _=>False) e s'→False) :
    PySem.W.WalkO q loose XP YP l.row.toRowW d [] (fun f vs=>PySem.call f vs):=by
  intro w s₀ s₁ mg mb G Y fa o pm cd doc dV kV ho hd hcd hD hmg hg args vals as hpre hlay hrd hwl hlo
  obtain rfl:dV = .none:=Dflts.none hD hdf
  obtain rfl:kV = .none:=Dflts.noKw hD
  obtain ⟨a,vs,ns,rfl,rfl,hobj,hints,hlen⟩:=Att.script_of hn hpre hwl
  have hb:=bnd_of hlay
  have KX:=hY w _ Y
  obtain ⟨hok,fd,hbd,hF⟩:=F w mg fa _ KX G.T.g hmg
  refine enter_call (codeAny_mono (law_callT KX G.T.g G.T.b G.T.builtins G.T.nolimit G.T.bmain hg hobj hints (Nat.le_trans hlen hn2) hr (fun x hx c P e=>by
    obtain ⟨dr,h⟩:=hrec x hx
    exact tab_of G.T KX h e) hok hF hbd (fun H hS=>hsp w H a ns hlen hb hS) fun H e s'=>hCX w H s₁ e s') fun r s' hq=>?_)
  obtain ⟨rfl,h2,h3,h4⟩:=hq
  exact ⟨.inl ⟨.bool true, .bool true,[],rfl,fun _=>rfl, .bool true,Att.post_true l _,fun _=>⟨List.Pairwise.nil,fun _ hm=>(nomatch hm)⟩⟩,h2,h3,h4⟩
end L2
namespace DL
open PySem PySem.Spec PyProof.Rows L2
def isSt:Expr→Bool
  | .Starred _ _=>true
  | _=>false
theorem star_ns {a:Expr} {es:List Expr} {env:Env} (h:isSt a=false):starEach (a :: es) env=(false,eval a env) :: starEach es env:=by
  cases a <;> first | rfl | cases h
abbrev DM:=Th→Option (D × Th)
abbrev DMs:=Th→Option (List D × Th)
structure Mv (K:PySem.W.Frag) (F A:List Addr) (H H':Hp) (B A':List Addr) (t':Th) (σ:L2.St):Prop where
  sm:Same H H'
  nd:B.Nodup
  dj:∀ b ∈ B,b ∉ F
  rs:RS K (B ++ F) H' A' t' σ
  fr:∀ b ∈ B,b ∈ A ∨ H b=none
  sb:∀ b ∈ A',b ∈ A
end DL
namespace TS
open PySem PyProof.Rows
section
variable (κ π:Keyed→Int)
def rk (x:Keyed):Int:=κ x * 1048576 + π x
def Ris (l:List Keyed):Prop:=l.Pairwise fun a b=>rk κ π a ≤ rk κ π b
def Below (l m:List Keyed):Prop := ∀ a ∈ l, ∀ b ∈ m,rk κ π a ≤ rk κ π b
variable {κ π}
structure Lo (X Y out:List Keyed) (i j:Nat):Prop where
  pm:out.Perm (X.take i ++ Y.take j)
  rs:Ris κ π out
  bx:Below κ π out (X.drop i)
  by':Below κ π out (Y.drop j)
variable {X Y out:List Keyed} {i j:Nat}
structure Hi (X Y out:List Keyed) (i j:Nat):Prop where
  pm:out.Perm (X.drop i ++ Y.drop j)
  rs:Ris κ π out.reverse
  bx:Below κ π (X.take i) out
  by':Below κ π (Y.take j) out
end
end TS
namespace TS
open PySem PyProof.Rows
structure Cmp (M:Model) (A:Around) (E:Value→Shared→Prop) (s:Shared) (κ π:Keyed→Int) (a₀:Array Keyed) (kd:SortKind):Prop where
  lt:∀ (st:SortSt) (x y:Keyed) (Q:Option Bool→SortSt→Prop),kindOf st=kd→x ∈ a₀.toList→y ∈ a₀.toList→Q (some (decide (κ x < κ y))) st→wpS M A E s (lt' x y) Q st
  pi:∀ x ∈ a₀.toList,0 ≤ π x∧π x < 1048576
section
variable {M:Model} {A:Around} {E:Value→Shared→Prop} {s:Shared} {κ π:Keyed→Int} {a₀:Array Keyed} {kd:SortKind} (C:Cmp M A E s κ π a₀ kd)
structure SameS (st st':SortSt):Prop where
  arr:arrOf st'=arrOf st
  knd:kindOf st'=kindOf st
  pnd:pendingOf st'=pendingOf st
  fld:failedOf st'=failedOf st
structure Two (κ π:Keyed→Int) (a₀:Array Keyed) (xs ys:Array Keyed):Prop where
  mx:∀ x ∈ xs.toList,x ∈ a₀.toList
  my:∀ y ∈ ys.toList,y ∈ a₀.toList
  rx:Ris κ π xs.toList
  ry:Ris κ π ys.toList
  sep:∀ x ∈ xs.toList, ∀ y ∈ ys.toList,π x ≤ π y
  px:0 < xs.size
  py:0 < ys.size
  first:∀ x y,xs[0]?=some x→ys[0]?=some y→κ y < κ x
  last:∀ x,xs[xs.size - 1]?=some x→∀ y ∈ ys.toList,κ y < κ x
variable {xs ys:Array Keyed} {st:SortSt} (hk:kindOf st=kd) (T:Two κ π a₀ xs ys)
end
end TS
namespace TS
open PySem PyProof.Rows
section
variable {M:Model} {A:Around} {E:Value→Shared→Prop} {s:Shared} {κ π:Keyed→Int} {a₀:Array Keyed} {kd:SortKind} (C:Cmp M A E s κ π a₀ kd)
def sepL (π:Keyed→Int) (l m:List Keyed):Prop := ∀ a ∈ l, ∀ b ∈ m,π a ≤ π b
end
end TS
namespace TS
open PySem PyProof.Rows
def kA (f:Keyed→Int) (xs:Array Keyed) (i:Nat):Int:=match xs[i]? with
  | some p=>f p
  | none=>0
structure Chg (xs zs:Array Keyed) (lo hi:Nat):Prop where
  pm:zs.Perm xs
  out:∀ i,i < lo ∨ hi ≤ i→zs[i]?=xs[i]?
  ins:∀ i,lo ≤ i→i < hi→∃ j,lo ≤ j∧j < hi∧zs[i]?=xs[j]?
theorem Chg.size {xs zs:Array Keyed} {lo hi:Nat} (h:Chg xs zs lo hi):zs.size=xs.size:=h.pm.size_eq
section
variable {M:Model} {A:Around} {E:Value→Shared→Prop} {s:Shared} {κ π:Keyed→Int} {a₀:Array Keyed} {kd:SortKind} (C:Cmp M A E s κ π a₀ kd)
def rA (κ π:Keyed→Int) (xs:Array Keyed) (i:Nat):Int:=kA κ xs i * 1048576 + kA π xs i
structure TB (a₀:Array Keyed) (kd:SortKind) (st:SortSt):Prop where
  pm:(arrOf st).Perm a₀
  kind:kindOf st=kd
  fld:failedOf st=none
theorem TB.size {st:SortSt} (h:TB a₀ kd st):(arrOf st).size=a₀.size:=h.pm.size_eq
end
end TS
namespace TS
open PySem PyProof.Rows
section
variable {M:Model} {A:Around} {E:Value→Shared→Prop} {s:Shared} {κ π:Keyed→Int} {a₀:Array Keyed} {kd:SortKind} (C:Cmp M A E s κ π a₀ kd)
structure Dn (κ π:Keyed→Int) (a₀:Array Keyed) (kd:SortKind) (st0:SortSt) (lo x q:Nat) (st:SortSt):Prop where
  tb:TB a₀ kd st
  pd:pendingOf st=pendingOf st0
  ch:Chg (arrOf st0) (arrOf st) lo (lo + x)
  le:q + 1 ≤ x
  un:∀ i,lo + x - (q + 1) ≤ i→(arrOf st)[i]?=(arrOf st0)[i]?
  eq:∀ i,lo + x - (q + 1) ≤ i→i < lo + x→kA κ (arrOf st) i=kA κ (arrOf st) (lo + x - 1)
  fl:∀ i j,lo ≤ i→i ≤ j→j < lo + x - (q + 1)→rA κ π (arrOf st) j ≤ rA κ π (arrOf st) i
  gt:∀ i,lo ≤ i→i < lo + x - (q + 1)→kA κ (arrOf st) (lo + x - 1) < kA κ (arrOf st) i
end
end TS
namespace TS
open PySem PyProof.Rows
def MatchP:Nat→List (List Keyed)→List (Nat × Nat × Nat)→Prop
  | _,[],[]=>True
  | lo,L :: Ls,q :: ps=>q.1=lo∧q.2.1=L.length∧MatchP (lo + L.length) Ls ps
  | _,_,_=>False
section
variable {M:Model} {A:Around} {E:Value→Shared→Prop} {s:Shared} {κ π:Keyed→Int} {a₀:Array Keyed} {kd:SortKind} (C:Cmp M A E s κ π a₀ kd)
structure Runs (κ π:Keyed→Int) (a₀:Array Keyed) (kd:SortKind) (st:SortSt) (Ls:List (List Keyed)) (post:List Keyed):Prop where
  tb:TB a₀ kd st
  ar:(arrOf st).toList=Ls.flatten ++ post
  mt:MatchP 0 Ls (pendingOf st).toList
  ok:∀ L ∈ Ls,Ris κ π L∧L ≠ []
  sp:Ls.Pairwise (sepL π)
end
end TS
namespace TS
open PySem PyProof.Rows
section
variable {M:Model} {A:Around} {E:Value→Shared→Prop} {s:Shared} {κ π:Keyed→Int} {a₀:Array Keyed} {kd:SortKind} (C:Cmp M A E s κ π a₀ kd)
structure Btw (κ π:Keyed→Int) (a₀:Array Keyed) (kd:SortKind) (lo:Nat) (st:SortSt) (Ls:List (List Keyed)) (rest:List Keyed):Prop where
  rn:Runs κ π a₀ kd st Ls rest
  ln:Ls.flatten.length=lo
  sp:sepL π Ls.flatten rest
  up:rest.Pairwise fun a b=>π a ≤ π b
end
end TS
namespace DL
open PySem PySem.Spec PyProof.Rows L2 TS
def natsI (n:Nat):List Int:=(List.range n).map fun (i:Nat)=>(i:Int)
theorem natsI_len (n:Nat):(natsI n).length=n:=by simp [natsI]
theorem natsI_get {n i:Nat} {x:Int} (h:(natsI n)[i]?=some x):x=(i:Int)∧i < n:=by
  unfold natsI at h
  rw [List.getElem?_map] at h
  cases e:(List.range n)[i]? with
  | none=>rw [e] at h; cases h
  | some j =>
    rw [e] at h
    obtain ⟨h1,h2⟩:=List.getElem?_eq_some_iff.mp e
    simp at h1 h2
    cases h
    exact ⟨by rw [h2],h1⟩
theorem long_ofR {i:Int} (h0:0 ≤ i) (h1:i ≤ 100000):Builtin.Range.rangeFitsLong i=true:=by
  unfold Builtin.Range.rangeFitsLong
  have e:(2:Int) ^ 63=9223372036854775808:=by decide
  rw [e]
  simp only [Bool.and_eq_true,decide_eq_true_eq]
  omega
theorem small_of {n:Int} (h0:0 ≤ n) (h1:n ≤ 100000):Builtin.Range.small 0 n 1=true:=by
  have rs:Builtin.Range.rangeSize 0 n 1=n:=by simp only [Builtin.Range.rangeSize]; omega
  unfold Builtin.Range.small
  rw [rs,long_ofR (i:=0) (by omega) (by omega),long_ofR h0 h1,long_ofR (i:=1) (by omega) (by omega),if_pos (by omega),long_ofR (i:=n + (1 - 1)) (by omega) (by omega),Bool.or_true]
  rfl
end DL
namespace DL
open PySem PySem.Spec PyProof.Rows L2
section
variable {X:Cx} {F:List Addr}
def kIntB:List Ev→Option Ev:=fun rs=>match rs with
  | [r]=>(match r.d with
    | .bl b=>some (.cl (.int (if b then 1 else 0)))
    | _=>none)
  | _=>none
theorem call_intB:CallR X (.type "int") (fun xs H Q => ∃ b:Bool,xs=[.bl b]∧Q (.int (if b then 1 else 0)) H):=by
  intro pins s σ H xs us Q I r h
  obtain ⟨b,rfl,q⟩:=h
  obtain ⟨u,rfl,ru⟩:=vals1 r
  cases ru
  exact PySem.call_int_bool ⟨.int _,H,I.tok _,⟨_,rfl⟩,q⟩
theorem cd_intB:CallD X F (.type "int") kIntB:=CallD.of call_intB fun H0 H A xs rs e Q m g q ek hq=>by
  unfold kIntB at ek
  split at ek
  case h_2=>cases ek
  cases q with
  | cons q1 q2 =>
    cases q2
    split at ek
    case h_2=>cases ek
    rename_i b z
    cases ek
    have p:=q1.full
    rw [z] at p
    cases p
    exact ⟨b,rfl,hq _ H (Same.refl H) (.int _)⟩
end
end DL
namespace DL
open PySem PySem.Spec PyProof.Rows L2
def spT (K:PySem.W.Frag) (G:D→List D→List D→D→Option (List Int × List Int)):Sp:=fun vs H Q _ => ∃ (v0 v3:V) (p q:Addr) (ws us:List V) (d0 d3:D) (xs ys:List D) (r:List Int × List Int),vs=[v0, .ref p, .ref q,v3]∧p ≠ q∧H p=some (.lst ws)∧H q=some (.lst us) ∧
  Rep K (hide [p,q] H) d0 v0∧Reps K (hide [p,q] H) xs ws∧Reps K (hide [p,q] H) ys us∧Rep K (hide [p,q] H) d3 v3∧G d0 xs ys d3=some r ∧
  ∀ H',(∀ b o,b ≠ p→b ≠ q→H b=some o→H' b=some o)→H' p=some (.lst (r.1.map V.int))→H' q=some (.lst (r.2.map V.int))→Q .non H'
structure CalT (P:Program) (w:World) (K:PySem.W.Frag) (mg:Str→Option Value) (base:BHeap) (x:Str) (k:Nat) (G:D→List D→List D→D→Option (List Int × List Int)):Prop where
  ex:∃ (a:Addr) (fd:FuncData) (ps:List Str),mg x=some (.ref a)∧PySem.W.keepIn K (.ref a)=true∧L2.Binds K fd ps []∧FnOk P w K mg base CX0 k a fd ps (spT K G)
section
variable {X:Cx} {F:List Addr} {a b c:Expr} {es:List Expr} {fa fb fc:DE} {pos:Pos}
def kAppPop (t:Th) (j i:Nat) (k:Ev):Option Out:=match t[i]?,t[j]?,k.d with
  | some (.own xs),some (.own ys), .int n=>if i=j then none else if decide (-1000000 ≤ n∧n ≤ 1000000∧ys.length < 100000) then (ixN xs.length n).bind fun q=>(xs[q]?).map fun d => .nx ((t.set i (.own (xs.eraseIdx q))).set j (.own (ys ++ [d]))) else none
  | _,_,_=>none
def dAppPop (j i:Nat) (f:DE):DS:=fun t=>(f t).bind (kAppPop t j i)
theorem psd_appPop (j i:Nat) {x y:Str} {p0 p1 apos cpos apos1 cpos1:Pos} (he:PE X a (dE X.K F fa)) (hN:X.N[i]?=some x:=by rfl) (hv:Vis X.env.scope x:=by first | exact Or.inl rfl | exact Or.inr (Or.inl rfl) | exact Or.inr (Or.inr rfl)) (hd:(x == ("__debug__":Str))=false:=by decide)
    (hcd:(x == ("__classdict__":Str))=false:=by decide) (hNy:X.N[j]?=some y:=by rfl) (hvy:Vis X.env.scope y:=by first | exact Or.inl rfl | exact Or.inr (Or.inl rfl) | exact Or.inr (Or.inr rfl)) (hdy:(y == ("__debug__":Str))=false:=by decide)
    (hcdy:(y == ("__classdict__":Str))=false:=by decide) (hst:starEach [a] X.env=[(false,eval a X.env)]:=by rfl)
    (hbase:attributeBase (.Name x p1) "pop" X.env (eval (.Name x p1) X.env)=eval (.Name x p1) X.env:=by rfl)
    (hfew:((backTo cpos1 (starEach [a] X.env)).all (fun x => !x.1) && (backToKw cpos1 (keywordEach [] X.env)).all (fun x=>x.1.isSome)
      && decide ([a].length + ([]:List Keyword).length + (if ([]:List Keyword).isEmpty then 0 else 1) < 30))=true:=by rfl)
    (hline:(apos1.endLine == cpos1.line)=true:=by rfl) (hplain:(backTo cpos1 (starEach [] X.env)).any (·.1)=false:=by rfl)
    (hst2:starEach [.Call (.Attribute (.Name x p1) "pop" apos1) [a] [] cpos1] X.env=[(false,eval (.Call (.Attribute (.Name x p1) "pop" apos1) [a] [] cpos1) X.env)]:=by rfl)
    (hbase2:attributeBase (.Name y p0) "append" X.env (eval (.Name y p0) X.env)=eval (.Name y p0) X.env:=by rfl)
    (hfew2:((backTo cpos (starEach [.Call (.Attribute (.Name x p1) "pop" apos1) [a] [] cpos1] X.env)).all (fun x => !x.1) && (backToKw cpos (keywordEach [] X.env)).all (fun x=>x.1.isSome)
      && decide ([Expr.Call (.Attribute (.Name x p1) "pop" apos1) [a] [] cpos1].length + ([]:List Keyword).length + (if ([]:List Keyword).isEmpty then 0 else 1) < 30))=true:=by rfl)
    (hline2:(apos.endLine == cpos.line)=true:=by rfl) (hplain2:(backTo cpos (starEach [] X.env)).any (·.1)=false:=by rfl)
    (hsw:swapsWith (.Call (.Attribute (.Name y p0) "append" apos) [.Call (.Attribute (.Name x p1) "pop" apos1) [a] [] cpos1] [] cpos) none pos.line X.env=pure false:=by rfl) :
    PS X (.Expr (.Call (.Attribute (.Name y p0) "append" apos) [.Call (.Attribute (.Name x p1) "pop" apos1) [a] [] cpos1] [] cpos) pos) (dS X.K F (dAppPop j i fa)):=by
  refine PS.imp (ps_expr (pe_bm PySem.F.plainAttrs_list PySem.F.slot_list_append PySem.F.type_list_append mt_append (pe_var (i:=j) hNy hvy hdy hcdy) (pa_cons (pe_bm PySem.F.plainAttrs_list PySem.F.slot_list_pop PySem.F.type_list_pop mt_popAt (pe_var (i:=i) hN hv hd hcd) (pa_cons he pa_nil hst) hbase hfew hline hst hplain) pa_nil hst2) hbase2 hfew2 hline2 hst2 hplain2) hsw) ?_
  rintro E σ H ⟨A,t,o,R,e,h⟩
  unfold dAppPop at e
  cases e1:fa t with
  | none=>rw [e1] at e; cases e
  | some r =>
    rw [e1] at e
    have e:kAppPop t j i r=some o:=e
    unfold kAppPop at e
    split at e
    case h_2=>cases e
    rename_i xs ys n z1 z2 zr
    split at e
    case isTrue=>cases e
    rename_i ne
    split at e
    case isFalse=>cases e
    rename_i ok
    simp only [decide_eq_true_eq] at ok
    cases e3:ixN xs.length n with
    | none=>rw [e3] at e; cases e
    | some q =>
      rw [e3] at e
      simp only [Option.bind_some] at e
      cases e4:xs[q]? with
      | none=>rw [e4] at e; cases e
      | some d =>
        rw [e4] at e
        cases e
        obtain ⟨p,vs,a1,a2,a3,a4⟩:=R.rel.getOwn z1
        obtain ⟨p',ws,b1,b2,b3,b4⟩:=R.rel.getOwn z2
        obtain ⟨v,c1,c2⟩:=a4.get e4
        have hj:=ixN_seq (by rw [← a4.length] at e3; exact e3)
        refine ⟨_,b1, .inl ⟨rfl,ws,SqL.of b3⟩,_,a1, .inl ⟨rfl,vs,SqL.of a3⟩,A,t,r,R,e1,fun w H1 gs q1=>?_⟩
        have pr:=q1.full
        rw [zr] at pr
        cases rep_int pr
        obtain ⟨R1,g1⟩:=(R.grow gs).write (es:=xs.eraseIdx q) (ws:=vs.eraseIdx q) z1 a1 (Reps.erase q (Reps.mono (same_hide gs) a4))
        have z2':(t.set i (.own (xs.eraseIdx q)))[j]?=some (.own ys):=by rw [List.getElem?_set_ne ne]; exact z2
        obtain ⟨p'',ws',b1',b2',b3',b4'⟩:=R1.rel.getOwn z2'
        rw [b1] at b1'
        cases b1'
        refine ⟨p,vs,n,q,v,rfl,rfl,gs _ _ a3,by omega,by omega,hj.1,c1,p',ws',v,rfl,rfl,b3',?_,?_⟩
        · have:ws'.length < 100000:=by rw [b4'.length]; exact ok.2.2
          exact Nat.lt_of_lt_of_le this (by rw [sizeLine_eq]; decide)
        · obtain ⟨R2,g2⟩:=R1.write (es:=ys ++ [d]) (ws:=ws' ++ [v]) z2' b1 (b4'.app (Reps.one (Rep.mono g1.same (Rep.mono (same_hide gs) c2))))
          exact h _ _ _ (((Gr.of_same R.mu.left gs).trans g1).trans g2) R2
end
end DL
namespace DL
open PySem PySem.Spec PyProof.Rows L2
section
variable {X:Cx} {F:List Addr} {a b c o:Expr} {es:List Expr} {fa fb fc:DE} {fs:List DE} {pos:Pos}
theorem RepDs.erase {K:PySem.W.Frag} {H0 H:Hp}:∀ {ds:List D} {vs:List V} {B:List Addr},RepDs K H0 H ds vs B→∀ j:Nat, ∃ B',RepDs K H0 H (ds.eraseIdx j) (vs.eraseIdx j) B'∧B'.Sublist B
  | _,_,_, .nil,j=>⟨[],by simpa using .nil,List.Sublist.refl _⟩
  | _,_,_, .cons (B:=B) (C:=C) h r,0=>⟨C,by simpa using r,List.sublist_append_right B C⟩
  | _,_,_, .cons (B:=B) (C:=C) h r,j + 1=>by
    obtain ⟨B',q,s⟩:=RepDs.erase r j
    exact ⟨B ++ B',by simpa using .cons h q,List.Sublist.append (List.Sublist.refl _) s⟩
def kPopP (t:Th) (i:Nat) (ns:List Int) (r:Ev):Option Out:=match t[i]?,r.d with
  | some (.dp d), .int n=>match getP d ns with
    | some (.lst ds)=>if decide (-1000000 ≤ n∧n ≤ 1000000) then (ixN ds.length n).bind fun q=>(putP d ns (.lst (ds.eraseIdx q))).map fun d2 => .nx (t.set i (.dp d2)) else none
    | _=>none
  | _,_=>none
def dPopAtP (i:Nat) (fs:List DE) (f:DE):DS:=fun t=>(pthD fs t).bind fun ns=>(f t).bind (kPopP t i ns)
theorem psd_popAtP (i:Nat) {apos cpos:Pos} (ho:PE X o (plE X.K F i fs)) (he:PE X a (dE X.K F fa)) (hst:starEach [a] X.env=[(false,eval a X.env)]:=by rfl)
    (hbase:attributeBase o "pop" X.env (eval o X.env)=eval o X.env:=by rfl)
    (hfew:((backTo cpos (starEach [a] X.env)).all (fun x => !x.1) && (backToKw cpos (keywordEach [] X.env)).all (fun x=>x.1.isSome)
      && decide ([a].length + ([]:List Keyword).length + (if ([]:List Keyword).isEmpty then 0 else 1) < 30))=true:=by rfl)
    (hline:(apos.endLine == cpos.line)=true:=by rfl) (hplain:(backTo cpos (starEach [] X.env)).any (·.1)=false:=by rfl)
    (hsw:swapsWith (.Call (.Attribute o "pop" apos) [a] [] cpos) none pos.line X.env=pure false:=by rfl) :
    PS X (.Expr (.Call (.Attribute o "pop" apos) [a] [] cpos) pos) (dS X.K F (dPopAtP i fs fa)):=by
  refine PS.imp (ps_expr (pe_bm PySem.F.plainAttrs_list PySem.F.slot_list_pop PySem.F.type_list_pop mt_popAt ho (pa_cons he pa_nil hst) hbase hfew hline hst hplain) hsw) ?_
  rintro E σ H ⟨A,t,o,R,e,h⟩
  unfold dPopAtP at e
  cases e0:pthD fs t with
  | none=>rw [e0] at e; cases e
  | some ns =>
  cases e1:fa t with
  | none=>rw [e0,e1] at e; cases e
  | some r =>
    rw [e0,e1] at e
    have e:kPopP t i ns r=some o:=e
    unfold kPopP at e
    split at e
    case h_2=>cases e
    rename_i d n z zr
    split at e
    case h_2=>cases e
    rename_i ds z1
    split at e
    case isFalse=>cases e
    rename_i ok
    simp only [decide_eq_true_eq] at ok
    cases e4:ixN ds.length n with
    | none=>rw [e4] at e; cases e
    | some q =>
    rw [e4] at e
    simp only [Option.bind_some] at e
    cases e3:putP d ns (.lst (ds.eraseIdx q)) with
    | none=>rw [e3] at e; cases e
    | some d2 =>
      rw [e3] at e
      cases e
      obtain ⟨v,p,vs1,B1,a1,a2,a3,a4,a5,a6,a7⟩:=R.place z z1
      have hj:=ixN_seq (by rw [← a4.length] at e4; exact e4)
      obtain ⟨w,hw⟩:∃ w,vs1[q]?=some w:=⟨vs1[q]'hj.2.1,List.getElem?_eq_getElem _⟩
      refine ⟨A,t,v,ns, .ref p,R,e0,a1,a2,fun H1 gs=>⟨.inl ⟨rfl,vs1,SqL.of (gs _ _ a3)⟩,A,t,r,R.grow gs,e1,fun y H2 gs2 q1=>?_⟩⟩
      have pr:=q1.full
      rw [zr] at pr
      cases rep_int pr
      refine ⟨p,vs1,n,q,w,rfl,rfl,gs2 _ _ (gs _ _ a3),by omega,by omega,hj.1,hw,?_⟩
      have g2:=gs.trans gs2
      obtain ⟨B',rb,sb⟩:=RepDs.erase a4 q
      obtain ⟨A2,R2,gr⟩:=a7 H2 (ds.eraseIdx q) (vs1.eraseIdx q) B' d2 g2 (fun H' k hh=>by
        refine RepDs.mono hh rb fun b hb o w=>?_
        rw [k b fun z=>a5 (z ▸ sb.subset hb)]
        exact g2 _ _ w) sb e3
      exact h _ _ _ gr R2
def kPop0 (t:Th) (i:Nat) (ns:List Int):Option Out:=match t[i]? with
  | some (.dp d)=>match getP d ns with
    | some (.lst ds)=>if ds.length=0 then none else (putP d ns (.lst ds.dropLast)).map fun d2 => .nx (t.set i (.dp d2))
    | _=>none
  | _=>none
def dPopP (i:Nat) (fs:List DE):DS:=fun t=>(pthD fs t).bind (kPop0 t i)
theorem psd_popP (i:Nat) {apos cpos:Pos} (ho:PE X o (plE X.K F i fs))
    (hbase:attributeBase o "pop" X.env (eval o X.env)=eval o X.env:=by rfl)
    (hline:(apos.endLine == cpos.line)=true:=by rfl)
    (hsw:swapsWith (.Call (.Attribute o "pop" apos) [] [] cpos) none pos.line X.env=pure false:=by rfl) :
    PS X (.Expr (.Call (.Attribute o "pop" apos) [] [] cpos) pos) (dS X.K F (dPopP i fs)):=by
  refine PS.imp (ps_expr (pe_bm0 PySem.F.plainAttrs_list PySem.F.slot_list_pop PySem.F.type_list_pop mt_pop ho hbase hline) hsw) ?_
  rintro E σ H ⟨A,t,o,R,e,h⟩
  unfold dPopP at e
  cases e0:pthD fs t with
  | none=>rw [e0] at e; cases e
  | some ns =>
    rw [e0] at e
    have e:kPop0 t i ns=some o:=e
    unfold kPop0 at e
    split at e
    case h_2=>cases e
    rename_i d z
    split at e
    case h_2=>cases e
    rename_i ds z1
    split at e
    case isTrue=>cases e
    rename_i nz
    cases e3:putP d ns (.lst ds.dropLast) with
    | none=>rw [e3] at e; cases e
    | some d2 =>
      rw [e3] at e
      cases e
      obtain ⟨v,p,vs1,B1,a1,a2,a3,a4,a5,a6,a7⟩:=R.place z z1
      have vl:=a4.length
      obtain ⟨w,hw⟩:∃ w,vs1[vs1.length - 1]?=some w:=⟨vs1[vs1.length - 1]'(by omega),List.getElem?_eq_getElem _⟩
      refine ⟨A,t,v,ns, .ref p,R,e0,a1,a2,fun H1 gs=>⟨.inl ⟨rfl,vs1,SqL.of (gs _ _ a3)⟩,p,vs1,w,rfl,rfl,gs _ _ a3,hw,?_⟩⟩
      obtain ⟨B',rb,sb⟩:=RepDs.erase a4 (ds.length - 1)
      have k1:ds.eraseIdx (ds.length - 1)=ds.dropLast:=by rw [List.eraseIdx_length_sub_one]
      have k2:vs1.eraseIdx (ds.length - 1)=vs1.dropLast:=by rw [← vl,List.eraseIdx_length_sub_one]
      rw [k1,k2] at rb
      obtain ⟨A2,R2,gr⟩:=a7 H1 ds.dropLast vs1.dropLast B' d2 gs (fun H' k hh=>by
        refine RepDs.mono hh rb fun b hb o w=>?_
        rw [k b fun z=>a5 (z ▸ sb.subset hb)]
        exact gs _ _ w) sb e3
      exact h _ _ _ gr R2
end
end DL
namespace KX
open PySem PySem.Spec PyProof.Rows L2 DL
theorem app_of (t:Th) {f:DE} {i:Nat} {xs:List D} {d:D} (hf:f t=some (.cl d)) (hi:t[i]?=some (.own xs)) (hl:xs.length < 100000):dApp i f t=some (.nx (t.set i (.own (xs ++ [d])))):=by
  unfold dApp
  rw [hf]
  simp only [Option.bind_some,kApp,hi,Ev.ok,Ev.d,hl,decide_true,Bool.and_self,if_true]
theorem asg_of (t:Th) {f:DE} {i:Nat} {d:D} (hf:f t=some (.cl d)) (hi:i < t.length):dAsg i f t=some (.nx (t.set i (.val d))):=by
  unfold dAsg
  rw [hf]
  simp only [Option.bind_some,setSl,hi,if_true,Option.map_some]
theorem flats_ints:∀ xs:List Int,flats (xs.map D.int)=true
  | []=>rfl
  | x :: xs=>by
    have:=flats_ints xs
    simp [flats,flat,this]
theorem t2_of {k:List Ev→Option Ev} {fa fb:DE} {t:Th} {ra rb:Ev} (h1:fa t=some ra) (h2:fb t=some rb):dT1 k (dCons fa (dCons fb dNil)) t=k [ra,rb]:=by
  simp [dT1,dCons,dNil,h1,h2]
theorem d2_of {k:Ev→Ev→Option Ev} {fa fb:DE} {t:Th} {ra rb:Ev} (h1:fa t=some ra) (h2:fb t=some rb):d2 k fa fb t=k ra rb:=by
  simp [d2,h1,h2]
theorem eqOk_ints (n:Nat):∀ xs:List Int,eqOk (n + 1) (.lst (xs.map D.int)) (.lst (xs.map D.int))=true
  | []=>rfl
  | x :: xs=>by
    have:=eqOk_ints n xs
    simp only [eqOk] at this ⊢
    simp only [List.map_cons,List.zip_cons_cons,List.all_cons,this,Bool.and_true]
    cases n <;> rfl
theorem t4_of {k:List Ev→Option Ev} {fa fb fc fd:DE} {t:Th} {ra rb rc rd:Ev} (h1:fa t=some ra) (h2:fb t=some rb) (h3:fc t=some rc) (h4:fd t=some rd):dT1 k (dCons fa (dCons fb (dCons fc (dCons fd dNil)))) t=k [ra,rb,rc,rd]:=by
  simp [dT1,dCons,dNil,h1,h2,h3,h4]
theorem t3_of {k:List Ev→Option Ev} {fa fb fc:DE} {t:Th} {ra rb rc:Ev} (h1:fa t=some ra) (h2:fb t=some rb) (h3:fc t=some rc):dT1 k (dCons fa (dCons fb (dCons fc dNil))) t=k [ra,rb,rc]:=by
  simp [dT1,dCons,dNil,h1,h2,h3]
theorem t1_of {k:List Ev→Option Ev} {fa:DE} {t:Th} {ra:Ev} (h1:fa t=some ra):dT1 k (dCons fa dNil) t=k [ra]:=by
  simp [dT1,dCons,dNil,h1]
theorem asg_cl {t:Th} {f:DE} {i:Nat} {d:D} (hf:f t=some (.cl d)) (hi:i < t.length):dAsg i f t=some (.nx (t.set i (.val d))):=asg_of t hf hi
theorem asg_nw {t:Th} {f:DE} {i:Nat} {xs:List D} (hf:f t=some (.nw xs)) (hi:i < t.length):dAsg i f t=some (.nx (t.set i (.own xs))):=by
  unfold dAsg
  rw [hf]
  simp only [Option.bind_some,setSl,hi,if_true,Option.map_some]
theorem ix_nat (n b:Nat) (h:b < n):ixN n (b:Int)=some b:=by unfold ixN; rw [if_pos (by omega),if_pos (by omega)]; simp
theorem get_map (L:List Int) (b:Nat) (h:b < L.length):(L.map D.int)[b]?=some (.int (L.getD b 0)):=by simp [List.getD_eq_getElem?_getD,h]
theorem at_map (L:List Int) (b:Nat) (h:b < L.length):atI (L.map D.int) (b:Int)=some (.int (L.getD b 0)):=by
  unfold atI
  rw [ix_nat _ _ (by simpa using h)]
  exact get_map L b h
theorem ixEv {r1 r2:Ev} (L:List Int) (b:Nat) (h:b < L.length) (h1:r1.d = .lst (L.map D.int)) (h2:r2.d = .int (b:Int)):kIx r1 r2=some (.cl (.int (L.getD b 0))):=by
  unfold kIx
  rw [h1,h2]
  show (atI (L.map D.int) (b:Int)).map _=_
  rw [at_map L b h]
  simp [flat]
theorem ifs_of {c:DT} {g1 g2:DS} {t:Th} {b:Bool} (h:c t=some b):dIfS c g1 g2 t=if b then g1 t else g2 t:=by
  unfold dIfS; rw [h]; rfl
theorem ifs_t {c:DT} {g1 g2:DS} {t:Th} {b:Bool} (h:c t=some b) (hb:b=true):dIfS c g1 g2 t=g1 t:=by
  rw [ifs_of h,hb]; rfl
theorem ifs_f {c:DT} {g1 g2:DS} {t:Th} {b:Bool} (h:c t=some b) (hb:b=false):dIfS c g1 g2 t=g2 t:=by
  rw [ifs_of h,hb]; rfl
theorem app_map (t:Th) {f:DE} {i:Nat} {xs:List Int} {p:Int} (hf:f t=some (.cl (.int p))) (hi:t[i]?=some (.own (xs.map D.int))) (hl:xs.length < 100000):dApp i f t=some (.nx (t.set i (.own ((xs ++ [p]).map D.int)))):=by
  rw [app_of t hf hi (by simpa using hl)]
  simp
theorem seq_rt {g1 g2:DS} {t:Th} {r:Ev} (h:g1 t=some (.rt r)):dSeq g1 g2 t=some (.rt r):=by simp [dSeq,h]
theorem grd {c:DT} {g:DS} {t:Th} {b:Bool} (h:c t=some b) (hb:b=false):dIfS c g dSkip t=some (.nx t):=(ifs_f h hb).trans rfl
theorem grd_t {c:DT} {g:DS} {t:Th} {b:Bool} {d:D} (h:c t=some b) (hb:b=true):dIfS c (dRet (dC d)) g t=some (.rt (.cl d)):=(ifs_t h hb).trans rfl
theorem bnd {g:Option Out} {r:Ev} (h:g=some (.rt r)):g.bind outEv=some r:=by rw [h]; rfl
theorem add_of {fa fb:DE} {t:Th} {a b:Int} (h1:fa t=some (.cl (.int a))) (h2:fb t=some (.cl (.int b))):(d2 (kOr (kI tt2 fun i j => .int (i + j)) kCat) fa fb) t=some (.cl (.int (a + b))):=(d2_of h1 h2).trans rfl
theorem sub_of {fa fb:DE} {t:Th} {a b:Int} (h1:fa t=some (.cl (.int a))) (h2:fb t=some (.cl (.int b))):(d2 (kI tt2 fun i j => .int (i - j)) fa fb) t=some (.cl (.int (a - b))):=(d2_of h1 h2).trans rfl
theorem mod_of {fa fb:DE} {t:Th} {a b:Int} (h1:fa t=some (.cl (.int a))) (h2:fb t=some (.cl (.int b))) (hb:b ≠ 0):(d2 (kI cMod fun i j => .int (i.fmod j)) fa fb) t=some (.cl (.int (a.fmod b))):=by
  rw [d2_of h1 h2]
  show (if cMod a b=true then _ else none)=_
  rw [if_pos (by unfold cMod; exact decide_eq_true hb)]
theorem div_of {fa fb:DE} {t:Th} {a b:Int} (h1:fa t=some (.cl (.int a))) (h2:fb t=some (.cl (.int b))) (hb:b ≠ 0) (hs:sm b=true):(d2 (kI cDiv fun i j => .int (i.fdiv j)) fa fb) t=some (.cl (.int (a.fdiv b))):=by
  rw [d2_of h1 h2]
  show (if cDiv a b=true then _ else none)=_
  rw [if_pos (by unfold cDiv; rw [hs]; simp [hb])]
theorem mul_of {fa fb:DE} {t:Th} {a b:Int} (h1:fa t=some (.cl (.int a))) (h2:fb t=some (.cl (.int b))) (ha:sm a=true) (hb:sm b=true):(d2 (kOr (kI cMul fun i j => .int (i * j)) kRep) fa fb) t=some (.cl (.int (a * b))):=by
  rw [d2_of h1 h2]
  have:cMul a b=true:=by simp only [cMul]; rw [ha,hb]; rfl
  simp [kOr,kI,Ev.d,this]
theorem pow12 (t:Th):(d2 (kI cPow fun i j => .int (i ^ j.toNat)) (dC (.int 10)) (dC (.int 12))) t=some (.cl (.int 1000000000000)):=by
  simp [d2,dC,kI,cPow,kOr,tt2,Ev.d]
theorem lt_of {fa fb:DE} {t:Th} {a b:Int} (h1:fa t=some (.cl (.int a))) (h2:fb t=some (.cl (.int b))):dBo (d2 (kI tt2 fun i j => .bl (decide (i < j))) fa fb) t=some (decide (a < b)):=by
  unfold dBo; rw [d2_of h1 h2]; rfl
theorem gt_of {fa fb:DE} {t:Th} {a b:Int} (h1:fa t=some (.cl (.int a))) (h2:fb t=some (.cl (.int b))):dBo (d2 (kI tt2 fun i j => .bl (decide (j < i))) fa fb) t=some (decide (b < a)):=by
  unfold dBo; rw [d2_of h1 h2]; rfl
theorem eqI_of {fa fb:DE} {t:Th} {a b:Int} (h1:fa t=some (.cl (.int a))) (h2:fb t=some (.cl (.int b))):dBo (d2 kEq fa fb) t=some (decide (a=b)):=by
  unfold dBo; rw [d2_of h1 h2]
  have:kEq (.cl (.int a)) (.cl (.int b))=some (.cl (.bl (eqD (.int a) (.int b)))):=rfl
  rw [this,eqD_int]; rfl
theorem neI_of {fa fb:DE} {t:Th} {a b:Int} (h1:fa t=some (.cl (.int a))) (h2:fb t=some (.cl (.int b))):dBo (d2 kNe fa fb) t=some (!decide (a=b)):=by
  unfold dBo; rw [d2_of h1 h2]
  have:kNe (.cl (.int a)) (.cl (.int b))=some (.cl (.bl (!eqD (.int a) (.int b)))):=rfl
  rw [this,eqD_int]; rfl
theorem or_of {f g:DT} {t:Th} {a b:Bool} (h1:f t=some a) (h2:a=false→g t=some b):dOr f g t=some (a || b):=by
  unfold dOr; rw [h1]
  cases a with
  | true=>rfl
  | false=>simp [h2 rfl]
theorem or_of2 {f g:DT} {t:Th} {a b:Bool} (h1:f t=some a) (h2:g t=some b):dOr f g t=some (a || b):=or_of h1 fun _=>h2
theorem and_of2 {f g:DT} {t:Th} {a b:Bool} (h1:f t=some a) (h2:g t=some b):dAnd f g t=some (a && b):=by
  unfold dAnd; rw [h1]; cases a <;> simp [h2]
theorem len_of {t:Th} {f:DE} {r:Ev} {xs:List Int} (h:f t=some r) (hr:r.d = .lst (xs.map D.int)):(dT1 kLen (dCons f dNil)) t=some (.cl (.int (xs.length:Int))):=by
  rw [t1_of h]
  unfold kLen
  simp only [hr,List.length_map]
theorem ixe_of {fa fb:DE} {t:Th} {r1 r2:Ev} (L:List Int) (b:Nat) (ha:fa t=some r1) (hb:fb t=some r2) (h:b < L.length) (h1:r1.d = .lst (L.map D.int)) (h2:r2.d = .int (b:Int)):(d2 kIx fa fb) t=some (.cl (.int (L.getD b 0))):=by
  rw [d2_of ha hb,ixEv L b h h1 h2]
theorem calln {G:List D→Option Ev} {rs:List Ev} {xs:List Int} (h:G (rs.map Ev.d)=some (.nw (xs.map D.int))):kCall G rs=some (.nw (xs.map D.int)):=by
  unfold kCall
  rw [h]
  simp only [Option.map_some,upEv]
  split
  · rfl
  · simp [flats_ints]
theorem callc {G:List D→Option Ev} {rs:List Ev} {d:D} (h:G (rs.map Ev.d)=some (.cl d)) (hf:flat d=true):kCall G rs=some (.cl d):=by
  unfold kCall
  rw [h]
  simp only [Option.map_some,upEv]
  split
  · rfl
  · simp [hf]
theorem not_of {f:DT} {t:Th} {b:Bool} (h:f t=some b):dNot f t=some (!b):=by
  unfold dNot; rw [h]; rfl
theorem ret_of {f:DE} {t:Th} {r:Ev} (h:f t=some r):dRet f t=some (.rt r):=by
  unfold dRet; rw [h]; rfl
theorem rep_ints (x:Int):∀ m:Nat,(List.replicate m [D.int x]).flatten=(List.replicate m x).map D.int
  | 0=>rfl
  | m + 1=>by rw [List.replicate_succ,List.flatten_cons,rep_ints x m,List.replicate_succ]; rfl
theorem repn_of {fa fb:DE} {t:Th} {x:Int} {m:Nat} (h1:fa t=some (.nw [.int x])) (h2:fb t=some (.cl (.int (m:Int)))) (hm:m ≤ 900):(d2 (kOr (kI cMul fun i j => .int (i * j)) kRep) fa fb) t=some (.nw ((List.replicate m x).map D.int)):=by
  rw [d2_of h1 h2]
  show (if ([D.int x].length ≤ 100 && decide (-1000000 ≤ (m:Int)∧(m:Int) ≤ 1000))=true then some (Ev.nw (List.replicate (m:Int).toNat [D.int x]).flatten) else none)=_
  rw [if_pos (by simp; omega),Int.toNat_natCast,rep_ints]
theorem size_of (n:Nat):Builtin.Range.rangeSize 0 (n:Int) 1=(n:Int):=by
  unfold Builtin.Range.rangeSize
  rw [if_pos (by omega)]
  split <;> omega
theorem ok_of {n:Nat} (hn:n ≤ 1000):rng3Ok 0 (n:Int) 1=true:=by
  unfold rng3Ok
  rw [small_of (by omega) (by omega),size_of,decide_eq_true (by omega)]
  rfl
theorem lr_of {f:DE} {t:Th} {n:Nat} (h:f t=some (.cl (.int (n:Int)))) (hn:n ≤ 1000):(dListR (dCons f dNil)) t=some (.nw ((natsI n).map D.int)):=by
  have e:(dCons f dNil) t=some [.cl (.int (n:Int))]:=by simp [dCons,dNil,h]
  have e2:rArgs ([Ev.cl (.int (n:Int))].map Ev.d)=some (0,(n:Int),1):=rfl
  have c:(rng3Ok 0 (n:Int) 1 && decide (Builtin.Range.rangeSize 0 (n:Int) 1 ≤ 50000))=true:=by
    rw [ok_of hn,size_of,decide_eq_true (by omega)]; rfl
  unfold dListR
  rw [e,Option.bind_some,e2,Option.bind_some,if_pos c]
  unfold rng3 natsI
  rw [size_of,Int.toNat_natCast]
  simp
theorem rng1_of {k0:D→Th→Option Th} {b:DS} {t:Th} {f:DE} {r:Ev} {n:Nat} (h:f t=some r) (hr:r.d = .int (n:Int)) (hn:n ≤ 100000):dRng1 k0 f b t=forD k0 b ((natsI n).map D.int) t:=by
  unfold dRng1
  rw [h]
  simp only [Option.bind_some,hr]
  rw [if_pos (by unfold bigI; exact decide_eq_true (by omega)),Int.toNat_natCast]
  congr 1
  unfold rngD natsI
  simp
theorem list_of {f:DE} {t:Th} {r:Ev} {xs:List Int} (h:f t=some r) (hr:r.d = .lst (xs.map D.int)):(dT1 kList (dCons f dNil)) t=some (.nw (xs.map D.int)):=by
  rw [t1_of h]
  unfold kList
  simp only [hr,flats_ints,Bool.or_true,if_true]
theorem intB_of {f:DE} {t:Th} {b:Bool} (h:f t=some (.cl (.bl b))):(dT1 kIntB (dCons f dNil)) t=some (.cl (.int (if b then 1 else 0))):=by
  rw [t1_of h]; rfl
theorem comp_mem {k:D→Th→Option Th} {fe:DE} {f:Int→Int} {ext:Th} (hk:∀ (s:Sl) (x:Int),k (.int x) (s :: ext)=some (.val (.int x) :: ext)):∀ (xs:List Int) (s:Sl),(∀ x ∈ xs,fe (.val (.int x) :: ext)=some (.cl (.int (f x))))→compD k dTrue fe (xs.map D.int) (s :: ext)=some ((xs.map f).map D.int)
  | [],s,_=>rfl
  | x :: xs,s,hf=>by
    simp only [List.map_cons,compD,hk,Option.bind_some,dTrue,hf x (List.mem_cons_self ..),if_true]
    rw [comp_mem hk xs _ fun y hy=>hf y (List.mem_cons_of_mem _ hy)]
    rfl
theorem sum_of {f:DE} {t:Th} {r:Ev} {xs:List Int} (h:f t=some r) (hr:r.d = .lst (xs.map D.int)):(dT1 kSum (dCons f dNil)) t=some (.cl (.int xs.sum)):=by
  rw [t1_of h]
  unfold kSum
  simp only [hr,intsD_map]
  rfl
theorem for_P {k:D→Th→Option Th} {b:DS} {P:Th→Prop}:∀ (ds:List D),(∀ d ∈ ds, ∀ t,P t→∃ t1 t2,k d t=some t1∧b t1=some (.nx t2)∧P t2)→∀ t,P t→∃ t',forD k b ds t=some (.nx t')∧P t'
  | [],_,t,h=>⟨t,rfl,h⟩
  | d :: ds,hd,t,h=>by
    obtain ⟨t1,t2,e1,e2,h2⟩:=hd d (List.mem_cons_self ..) t h
    obtain ⟨t',e,h'⟩:=for_P ds (fun d' hd'=>hd d' (List.mem_cons_of_mem _ hd')) t2 h2
    exact ⟨t',by simp only [forD,e1,e2,Option.bind_some]; exact e,h'⟩
def rwD (r:List Int):D := .lst (r.map D.int)
def mD (M:List (List Int)):D := .lst (M.map rwD)
def gM (M:List (List Int)) (i j:Int):Int:=(M.getD i.toNat []).getD j.toNat 0
structure Sq (n:Nat) (M:List (List Int)):Prop where
  len:M.length=n
  row:∀ r ∈ M,r.length=n
theorem Sq.rowD {n:Nat} {M:List (List Int)} (S:Sq n M) {i:Nat} (h:i < n):(M.getD i []).length=n:=by
  have hi:i < M.length:=by rw [S.len]; exact h
  rw [List.getD_eq_getElem?_getD,List.getElem?_eq_getElem hi]
  exact S.row _ (List.getElem_mem hi)
theorem row_at {fa fb:DE} {t:Th} {r1:Ev} {M:List (List Int)} {i:Int} (ha:fa t=some r1) (h1:r1.d=mD M) (hb:fb t=some (.cl (.int i))) (i0:0 ≤ i) (il:i < (M.length:Int)):∃ r,(d2 kIx fa fb) t=some r∧r.d=rwD (M.getD i.toNat []):=by
  rw [d2_of ha hb]
  unfold kIx
  rw [h1]
  have hl:i.toNat < M.length:=by omega
  have e:atI (M.map rwD) i=some (rwD (M.getD i.toNat [])):=by
    unfold atI
    have:ixN (M.map rwD).length i=some i.toNat:=by
      have:=ix_nat (M.map rwD).length i.toNat (by simpa using hl)
      rwa [Int.toNat_of_nonneg i0] at this
    rw [this]
    simp [List.getD_eq_getElem?_getD,hl]
  show ∃ r,((atI (M.map rwD) i).map _)=some r∧_
  rw [e]
  refine ⟨_,rfl,?_⟩
  dsimp only
  split <;> rfl
theorem ix2_of {fa fb fc:DE} {t:Th} {r1:Ev} {n:Nat} {M:List (List Int)} (S:Sq n M) {i j:Int} (ha:fa t=some r1) (h1:r1.d=mD M) (hb:fb t=some (.cl (.int i))) (hc:fc t=some (.cl (.int j))) (i0:0 ≤ i) (il:i < (n:Int)) (j0:0 ≤ j) (jl:j < (n:Int)):(d2 kIx (d2 kIx fa fb) fc) t=some (.cl (.int (gM M i j))):=by
  obtain ⟨r,e,hr⟩:=row_at ha h1 hb i0 (by rw [S.len]; exact il)
  have hl:=S.rowD (i:=i.toNat) (by omega)
  exact ixe_of (M.getD i.toNat []) j.toNat e hc (by rw [hl]; omega) hr (by show D.int j=D.int _; rw [Int.toNat_of_nonneg j0])
theorem eqOk_mD (n:Nat):∀ M:List (List Int),eqOk (n + 2) (mD M) (mD M)=true
  | []=>rfl
  | r :: M=>by
    have:=eqOk_mD n M
    unfold mD at this ⊢
    simp only [eqOk] at this ⊢
    simp only [List.map_cons,List.zip_cons_cons,List.all_cons,this,Bool.and_true]
    exact eqOk_ints n r
theorem eq_mD {r1 r2:Ev} (M:List (List Int)) (h1:r1.d=mD M) (h2:r2.d=mD M):kEq r1 r2=some (.cl (.bl true)):=by
  unfold kEq
  rw [h1,h2,if_pos (eqOk_mD 4 M),eqD_refl]
theorem lenM_of {t:Th} {f:DE} {r:Ev} {M:List (List Int)} (h:f t=some r) (hr:r.d=mD M):(dT1 kLen (dCons f dNil)) t=some (.cl (.int (M.length:Int))):=by
  rw [t1_of h]
  unfold kLen
  simp only [hr,mD,List.length_map]
def setM (M:List (List Int)) (i j:Nat) (v:Int):List (List Int):=M.set i ((M.getD i []).set j v)
theorem setM_sq {n:Nat} {M:List (List Int)} (S:Sq n M) {i j:Nat} (v:Int) (hi:i < n):Sq n (setM M i j v):=by
  refine ⟨by unfold setM; rw [List.length_set]; exact S.len,fun r hr=>?_⟩
  rcases List.mem_or_eq_of_mem_set hr with w | w
  · exact S.row r w
  · rw [w,List.length_set]; exact S.rowD hi
theorem setM_get {n:Nat} {M:List (List Int)} (S:Sq n M) {i j:Nat} (v:Int) (hi:i < n) (hj:j < n) (a b:Nat):((setM M i j v).getD a []).getD b 0=if a=i∧b=j then v else (M.getD a []).getD b 0:=by
  unfold setM
  have hl:i < M.length:=by rw [S.len]; exact hi
  have hr:=S.rowD hi
  by_cases e:a=i
  · subst e
    have e1:(M.set a ((M.getD a []).set j v)).getD a []=(M.getD a []).set j v:=by
      rw [List.getD_eq_getElem?_getD,List.getElem?_set_self hl]; rfl
    rw [e1]
    by_cases f:b=j
    · subst f
      rw [if_pos ⟨rfl,rfl⟩,List.getD_eq_getElem?_getD,List.getElem?_set_self (by rw [hr]; exact hj)]; rfl
    · rw [if_neg fun w=>f w.2,List.getD_eq_getElem?_getD,List.getElem?_set_ne (fun w=>f w.symm), ← List.getD_eq_getElem?_getD]
  · rw [if_neg fun w=>e w.1]
    have e1:(M.set i ((M.getD i []).set j v)).getD a []=M.getD a []:=by
      rw [List.getD_eq_getElem?_getD,List.getElem?_set_ne (fun w=>e w.symm), ← List.getD_eq_getElem?_getD]
    rw [e1]
theorem sc_ints:∀ xs:List Int,(xs.map D.int).all scD=true
  | []=>rfl
  | x :: xs=>by simp only [List.map_cons,List.all_cons,sc_ints xs]; rfl
theorem setp_of {t:Th} {fi fk fv:DE} {s:Nat} {n i j:Nat} {M:List (List Int)} {v:Int} {ri rk rv:Ev} (S:Sq n M) (hv:fv t=some rv) (ev:rv.d = .int v) (hi:fi t=some ri) (ei:ri.d = .int (i:Int)) (hk:fk t=some rk) (ek:rk.d = .int (j:Int)) (hs:t[s]?=some (.dp (mD M))) (il:i < n) (jl:j < n):dSetP s [fi] fk fv t=some (.nx (t.set s (.dp (mD (setM M i j v))))):=by
  have hl:i < M.length:=by rw [S.len]; exact il
  have hr:=S.rowD il
  have hx:(M.map rwD)[i]?=some (rwD (M.getD i [])):=by
    rw [List.getElem?_map,List.getD_eq_getElem?_getD,List.getElem?_eq_getElem hl]; rfl
  have ixn:ixN (M.map rwD).length (i:Int)=some i:=ix_nat _ i (by rw [List.length_map]; exact hl)
  have ga:getP (mD M) [(i:Int)]=some (.lst ((M.getD i []).map D.int)):=by
    unfold mD getP atI
    rw [ixn]
    simp only [Option.bind_some,hx]
    rfl
  have pu:putP (mD M) [(i:Int)] (.lst (((M.getD i []).map D.int).set j (.int v)))=some (mD (setM M i j v)):=by
    unfold mD putP
    rw [ixn]
    simp only [Option.bind_some,hx]
    simp only [putP,Option.map_some]
    unfold setM
    rw [← List.map_set (f:=D.int),List.map_set (f:=rwD)]
    rfl
  unfold dSetP
  rw [hv,hk]
  simp only [pthD,hi,Option.bind_some,ei,Option.map_some]
  unfold kSetP
  rw [hs]
  simp only [ga,ek,ev]
  have cc:(((M.getD i []).map D.int).all scD && scD (D.int v))=true:=by rw [sc_ints]; rfl
  rw [if_pos cc,List.length_map,ix_nat _ j (by rw [hr]; exact jl)]
  simp only [Option.bind_some,pu,Option.map_some]
theorem nats_mem {n:Nat} {x:Int} (h:x ∈ natsI n):0 ≤ x∧x < (n:Int):=by
  obtain ⟨i,hi⟩:=List.mem_iff_getElem?.mp h
  obtain ⟨q,l⟩:=natsI_get hi
  omega
theorem mem_nats {n:Nat} {x:Int} (h0:0 ≤ x) (h1:x < (n:Int)):x ∈ natsI n:=by
  unfold natsI
  exact List.mem_map.mpr ⟨x.toNat,List.mem_range.mpr (by omega),by omega⟩
theorem rng_is {f:DE} {t:Th} {n:Nat} (hf:f t=some (.cl (.int (n:Int)))) (hn:n ≤ 50000):fsR1 f t=some (true,(natsI n).map D.int):=by
  unfold fsR1
  rw [hf]
  simp only [Option.bind_some,Ev.d]
  rw [if_pos (by unfold bigI; exact decide_eq_true (by omega)),Int.toNat_natCast]
  congr 2
  unfold rngD natsI
  simp
theorem compRM_of {cap:List Nat} {f:DE} {fe:DE} {t:Th} {n:Nat} {g:Int→Int} {b:Bool} {c:List D} (hf:f t=some (.cl (.int (n:Int)))) (hn:n ≤ 50000) (hc:capD t cap=some (b,c)) (he:∀ x ∈ natsI n,fe (.val (.int x) :: c.map Sl.val)=some (.cl (.int (g x)))) :
    (dComp 1 cap (fsR1 f) (gkName 0) dTrue fe) t=some (.nw (((natsI n).map g).map D.int)):=by
  unfold dComp
  have e2:compD (gkName 0) dTrue fe ((natsI n).map D.int) (Sl.no :: c.map Sl.val)=some (((natsI n).map g).map D.int):=comp_mem (fun _ _=>rfl) _ _ he
  rw [rng_is hf hn,hc]
  simp only [Option.bind_some]
  rw [if_pos (by rw [List.length_map,natsI_len]; exact hn)]
  show (compD (gkName 0) dTrue fe ((natsI n).map D.int) (Sl.no :: c.map Sl.val)).bind _=_
  rw [e2]
  simp only [Option.bind_some,flats_ints,Bool.or_true,if_true]
structure CIn (n:Nat) (C:List Int):Prop where
  ne:0 < C.length
  rg:∀ x ∈ C,0 ≤ x∧x < (n:Int)
def top (i:Nat):Stmt:=PySem.Challenge.pw_nearenough_k18_what_are_roads.main.body.getD i (.Pass ⟨0,0,0,0⟩)
abbrev s_is_square:Stmt:=top 3
abbrev s_are_lengths:Stmt:=top 4
abbrev s_are_alike_both_ways:Stmt:=top 5
abbrev s_are_straight:Stmt:=top 6
abbrev s_are_roads:Stmt:=top 7
abbrev s_length_of:Stmt:=top 8
abbrev s_law_cell:Stmt:=top 10
abbrev s_law_mixed:Stmt:=top 11
abbrev s_law_row:Stmt:=top 12
abbrev s_law_roads:Stmt:=top 13
abbrev s_law_are:Stmt:=top 14
abbrev s_law_spoiled:Stmt:=top 15
abbrev s_law_tour:Stmt:=top 16
abbrev s_law:Stmt:=top 17
structure Blt (mg:Str→Option Value):Prop where
  n_all:mg "all"=none
  n_any:mg "any"=none
  n_bool:mg "bool"=none
  n_enumerate:mg "enumerate"=none
  n_int:mg "int"=none
  n_isinstance:mg "isinstance"=none
  n_len:mg "len"=none
  n_list:mg "list"=none
  n_max:mg "max"=none
  n_min:mg "min"=none
  n_range:mg "range"=none
  n_sum:mg "sum"=none
  x_LONGEST_ROAD:∃ t,mg "LONGEST_ROAD"=some (.int 1000000000000 t)
  x_MOST_PLACES:∃ t,mg "MOST_PLACES"=some (.int 40 t)
theorem sc_is_square:FnScope ["thing", "many"] ["thing"] (defScope s_is_square):=⟨rfl,rfl,rfl,by decide +kernel,rfl,by decide +kernel,by decide +kernel⟩
def g_is_square:DS :=
  (dSeq (dAsg 1 (dT1 kLen (dCons (dVar 0) dNil)))
    (dRet (dAndV (dChV (kI tt2 fun i j => .bl (decide (i ≤ j))) (kI tt2 fun i j => .bl (decide (i ≤ j))) (dC (.int 1)) (dVar 1) (dC (.int 40))) (dT1 (kBls fun bs=>bs.all id) (dCons (dComp 1 [1] (fsL (dVar 0)) (gkName 0) dTrue (d2 kEq (dT1 kLen (dCons (dVar 0) dNil)) (dVar 1))) dNil)))))
def G_is_square:List D→Option Ev:=mkG 1 ["thing", "many"] g_is_square
theorem hl_is_square:∀ ds r,G_is_square ds=some r→ds.length=1:=fun _ _ e=>mkG_len e
theorem hG_is_square:∀ ds r,G_is_square ds=some r→∃ o,g_is_square (startD ["thing", "many"] ds)=some o∧outEv o=some r:=fun _ _ e=>mkG_ok e
theorem ok_is_square {P:Program} {w:World} {K:PySem.W.Frag} {mg:Str→Option Value} {base:BHeap} {ad:Addr} {fd:FuncData} (Fn:L2.Fun K "is_square" "is_square" s_is_square ad fd) (bu:Blt mg)
    (hl:∀ ds r,G_is_square ds=some r→ds.length=1) (hG:∀ ds r,G_is_square ds=some r→∃ o,g_is_square (startD ["thing", "many"] ds)=some o∧outEv o=some r):FnOk P w K mg base CX0 1 ad fd ["thing"] (spD K G_is_square):=by
  have SC:=sc_is_square
  obtain ⟨_,v_MOST_PLACES⟩:=bu.x_MOST_PLACES
  refine fun_ok (k:=0) Fn SC hl g_is_square hG (fun cdv A outer s H E F hr=>?_)
  refine psd_cons ?_ ?_
  · exact (psd_set (i:=1) SC.nd rfl (by first | exact Or.inl rfl | exact Or.inr rfl) (ped_callB cd_len rfl bu.n_len PySem.boot_len (pad_cons (ped_var 0) pad_nil)))
  exact psd_one (psd_ret (ped_and (ped_chain od_le od_le ped_int (ped_var 1) (ped_gint rfl v_MOST_PLACES ⟨_,rfl⟩)) (ped_one (ped_callB (cd_bls (call_all_bools rfl)) rfl bu.n_all (by decide +kernel) (pad_cons (ped_compr 1 [1] ["row", "many"] rfl (pid_list (ped_var 0)) (fun _ _ _ _ _=>(pg_name (i:=0) (show List.Nodup (["row", "many"]:List Str) by decide +kernel) rfl (by first | exact Or.inl rfl | exact Or.inr rfl))) (fun _=>(tg_name 0)) (fun _ _ _ _ _ _=>ptsd_nil) (fun _ _ _ _ _ _=>(ped_cmp (od_eq hr.units) (ped_callB cd_len rfl bu.n_len PySem.boot_len (pad_cons (ped_var 0) pad_nil)) (ped_var 1)))) pad_nil)))))
theorem sc_are_lengths:FnScope ["roads"] ["roads"] (defScope s_are_lengths):=⟨rfl,rfl,rfl,by decide +kernel,rfl,by decide +kernel,by decide +kernel⟩
def g_are_lengths:DS :=
  (dSeq (dIfS (dNot (dTr (dT1 (kBls fun bs=>bs.all id) (dCons (dComp2 2 [] (fsL (dVar 0)) (gkName 0) dTrue (fsL (dVar 0)) (gkName 1) dTrue (dChV (kI tt2 fun i j => .bl (decide (i ≤ j))) (kI tt2 fun i j => .bl (decide (i ≤ j))) (dC (.int 0)) (dVar 1) (dC (.int 1000000000000)))) dNil)))) (dRet (dC (.bl false))) dSkip)
    (dRet (dT1 (kBls fun bs=>bs.all id) (dCons (dComp 2 [] (fsE (dVar 0)) (gkTup 2 (gkCons (gkName 0) (gkCons (gkName 1) gkNil))) dTrue (d2 kEq (d2 kIx (dVar 1) (dVar 0)) (dC (.int 0)))) dNil))))
def G_are_lengths:List D→Option Ev:=mkG 1 ["roads"] g_are_lengths
theorem hl_are_lengths:∀ ds r,G_are_lengths ds=some r→ds.length=1:=fun _ _ e=>mkG_len e
theorem hG_are_lengths:∀ ds r,G_are_lengths ds=some r→∃ o,g_are_lengths (startD ["roads"] ds)=some o∧outEv o=some r:=fun _ _ e=>mkG_ok e
theorem ok_are_lengths {P:Program} {w:World} {K:PySem.W.Frag} {mg:Str→Option Value} {base:BHeap} {ad:Addr} {fd:FuncData} (Fn:L2.Fun K "are_lengths" "are_lengths" s_are_lengths ad fd) (bu:Blt mg)
    (hl:∀ ds r,G_are_lengths ds=some r→ds.length=1) (hG:∀ ds r,G_are_lengths ds=some r→∃ o,g_are_lengths (startD ["roads"] ds)=some o∧outEv o=some r):FnOk P w K mg base CX0 1 ad fd ["roads"] (spD K G_are_lengths):=by
  have SC:=sc_are_lengths
  obtain ⟨_,v_LONGEST_ROAD⟩:=bu.x_LONGEST_ROAD
  refine fun_ok (k:=0) Fn SC hl g_are_lengths hG (fun cdv A outer s H E F hr=>?_)
  refine psd_cons ?_ ?_
  · exact (psd_if (ptd_not (ptd_val (ped_callB (cd_bls (call_all_bools rfl)) rfl bu.n_all (by decide +kernel) (pad_cons (ped_compr2 2 [] ["row", "road"] rfl (pid_list (ped_var 0)) (fun _ _ _ _ _=>(pg_name (i:=0) (show List.Nodup (["row", "road"]:List Str) by decide +kernel) rfl (by first | exact Or.inl rfl | exact Or.inr rfl))) (fun _=>(tg_name 0)) (fun _ _ _ _ _ _=>ptsd_nil) (fun _ _ _ _ _ _=>(pid_list (ped_var 0))) (fun _ _ _ _ _=>(pg_name (i:=1) (show List.Nodup (["row", "road"]:List Str) by decide +kernel) rfl (by first | exact Or.inl rfl | exact Or.inr rfl))) (fun _=>(tg_name 1)) (fun _ _ _ _ _ _=>ptsd_nil) (fun _ _ _ _ _ _=>(ped_chain od_le od_le ped_int (ped_var 1) (ped_gint rfl v_LONGEST_ROAD ⟨_,rfl⟩)))) pad_nil)))) (psd_one (psd_ret ped_bl)) psd_nil)
  exact psd_one (psd_ret (ped_callB (cd_bls (call_all_bools rfl)) rfl bu.n_all (by decide +kernel) (pad_cons (ped_compr 2 [] ["place", "row"] rfl (pid_enum rfl bu.n_enumerate (ped_var 0)) (fun _ _ _ _ _=>(pg_tup rfl (pgs_cons (pg_name (i:=0) (show List.Nodup (["place", "row"]:List Str) by decide +kernel) rfl (by first | exact Or.inl rfl | exact Or.inr rfl)) (pgs_cons (pg_name (i:=1) (show List.Nodup (["place", "row"]:List Str) by decide +kernel) rfl (by first | exact Or.inl rfl | exact Or.inr rfl)) pgs_nil)))) (fun _=>(tg_tup (tgs_cons (tg_name 0) (tgs_cons (tg_name 1) tgs_nil)))) (fun _ _ _ _ _ _=>ptsd_nil) (fun _ _ _ _ _ _=>(ped_cmp (od_eq hr.units) (ped_ix (ped_var 1) (ped_var 0)) ped_int))) pad_nil)))
theorem sc_are_alike_both_ways:FnScope ["roads", "places"] ["roads"] (defScope s_are_alike_both_ways):=⟨rfl,rfl,rfl,by decide +kernel,rfl,by decide +kernel,by decide +kernel⟩
def g_are_alike_both_ways:DS :=
  (dSeq (dAsg 1 (dListR (dCons (dT1 kLen (dCons (dVar 0) dNil)) dNil)))
    (dRet (dT1 (kBls fun bs=>bs.all id) (dCons (dComp2 2 [1,0] (fsL (dVar 1)) (gkName 0) dTrue (fsL (dVar 2)) (gkName 1) dTrue (d2 kEq (d2 kIx (d2 kIx (dVar 3) (dVar 0)) (dVar 1)) (d2 kIx (d2 kIx (dVar 3) (dVar 1)) (dVar 0)))) dNil))))
def G_are_alike_both_ways:List D→Option Ev:=mkG 1 ["roads", "places"] g_are_alike_both_ways
theorem hl_are_alike_both_ways:∀ ds r,G_are_alike_both_ways ds=some r→ds.length=1:=fun _ _ e=>mkG_len e
theorem hG_are_alike_both_ways:∀ ds r,G_are_alike_both_ways ds=some r→∃ o,g_are_alike_both_ways (startD ["roads", "places"] ds)=some o∧outEv o=some r:=fun _ _ e=>mkG_ok e
theorem ok_are_alike_both_ways {P:Program} {w:World} {K:PySem.W.Frag} {mg:Str→Option Value} {base:BHeap} {ad:Addr} {fd:FuncData} (Fn:L2.Fun K "are_alike_both_ways" "are_alike_both_ways" s_are_alike_both_ways ad fd) (bu:Blt mg)
    (hl:∀ ds r,G_are_alike_both_ways ds=some r→ds.length=1) (hG:∀ ds r,G_are_alike_both_ways ds=some r→∃ o,g_are_alike_both_ways (startD ["roads", "places"] ds)=some o∧outEv o=some r):FnOk P w K mg base CX0 1 ad fd ["roads"] (spD K G_are_alike_both_ways):=by
  have SC:=sc_are_alike_both_ways
  refine fun_ok (k:=0) Fn SC hl g_are_alike_both_ways hG (fun cdv A outer s H E F hr=>?_)
  refine psd_cons ?_ ?_
  · exact (psd_set (i:=1) SC.nd rfl (by first | exact Or.inl rfl | exact Or.inr rfl) (ped_listR rfl rfl bu.n_list rfl bu.n_range (pad_cons (ped_callB cd_len rfl bu.n_len PySem.boot_len (pad_cons (ped_var 0) pad_nil)) pad_nil)))
  exact psd_one (psd_ret (ped_callB (cd_bls (call_all_bools rfl)) rfl bu.n_all (by decide +kernel) (pad_cons (ped_compr2 2 [1,0] ["one", "other", "places", "roads"] rfl (pid_list (ped_var 1)) (fun _ _ _ _ _=>(pg_name (i:=0) (show List.Nodup (["one", "other", "places", "roads"]:List Str) by decide +kernel) rfl (by first | exact Or.inl rfl | exact Or.inr rfl))) (fun _=>(tg_name 0)) (fun _ _ _ _ _ _=>ptsd_nil) (fun _ _ _ _ _ _=>(pid_list (ped_var 2))) (fun _ _ _ _ _=>(pg_name (i:=1) (show List.Nodup (["one", "other", "places", "roads"]:List Str) by decide +kernel) rfl (by first | exact Or.inl rfl | exact Or.inr rfl))) (fun _=>(tg_name 1)) (fun _ _ _ _ _ _=>ptsd_nil) (fun _ _ _ _ _ _=>(ped_cmp (od_eq hr.units) (ped_ix (ped_ix (ped_var 3) (ped_var 0)) (ped_var 1)) (ped_ix (ped_ix (ped_var 3) (ped_var 1)) (ped_var 0))))) pad_nil)))
theorem sc_are_straight:FnScope ["roads", "places", "start", "third", "so_far"] ["roads"] (defScope s_are_straight):=⟨rfl,rfl,rfl,by decide +kernel,rfl,by decide +kernel,by decide +kernel⟩
def g_are_straight:DS :=
  (dSeq (dAsg 1 (dListR (dCons (dT1 kLen (dCons (dVar 0) dNil)) dNil)))
    (dSeq (dFor (gkName 2) (dVar 0) (dFrz 1 (dFor (gkName 3) (dVar 1) (dSeq (dAsg 4 (d2 kIx (dVar 2) (dVar 3)))
    (dIfS (dTr (dT1 (kBls fun bs=>bs.any id) (dCons (dComp 1 [2,4,0,3] (fsL (dVar 1)) (gkName 0) dTrue (d2 (kI tt2 fun i j => .bl (decide (j < i))) (d2 kIx (dVar 1) (dVar 0)) (d2 (kOr (kI tt2 fun i j => .int (i + j)) kCat) (dVar 2) (d2 kIx (d2 kIx (dVar 3) (dVar 4)) (dVar 0))))) dNil))) (dRet (dC (.bl false))) dSkip)))))
    (dRet (dC (.bl true)))))
def G_are_straight:List D→Option Ev:=mkG 1 ["roads", "places", "start", "third", "so_far"] g_are_straight
theorem hl_are_straight:∀ ds r,G_are_straight ds=some r→ds.length=1:=fun _ _ e=>mkG_len e
theorem hG_are_straight:∀ ds r,G_are_straight ds=some r→∃ o,g_are_straight (startD ["roads", "places", "start", "third", "so_far"] ds)=some o∧outEv o=some r:=fun _ _ e=>mkG_ok e
theorem ok_are_straight {P:Program} {w:World} {K:PySem.W.Frag} {mg:Str→Option Value} {base:BHeap} {ad:Addr} {fd:FuncData} (Fn:L2.Fun K "are_straight" "are_straight" s_are_straight ad fd) (bu:Blt mg)
    (hl:∀ ds r,G_are_straight ds=some r→ds.length=1) (hG:∀ ds r,G_are_straight ds=some r→∃ o,g_are_straight (startD ["roads", "places", "start", "third", "so_far"] ds)=some o∧outEv o=some r):FnOk P w K mg base CX0 1 ad fd ["roads"] (spD K G_are_straight):=by
  have SC:=sc_are_straight
  refine fun_ok (k:=0) Fn SC hl g_are_straight hG (fun cdv A outer s H E F hr=>?_)
  refine psd_cons ?_ ?_
  · exact (psd_set (i:=1) SC.nd rfl (by first | exact Or.inl rfl | exact Or.inr rfl) (ped_listR rfl rfl bu.n_list rfl bu.n_range (pad_cons (ped_callB cd_len rfl bu.n_len PySem.boot_len (pad_cons (ped_var 0) pad_nil)) pad_nil)))
  refine psd_cons ?_ ?_
  · exact (psd_for PassesOwn.never rfl (ped_var 0) (pg_name (i:=2) SC.nd rfl (by first | exact Or.inl rfl | exact Or.inr rfl)) (tg_name 2) (psd_one (psd_frz 1 (psd_for PassesOwn.never rfl (ped_var 1) (pg_name (i:=3) SC.nd rfl (by first | exact Or.inl rfl | exact Or.inr rfl)) (tg_name 3) (psd_cons (psd_set (i:=4) SC.nd rfl (by first | exact Or.inl rfl | exact Or.inr rfl) (ped_ix (ped_var 2) (ped_var 3)))
    (psd_one (psd_if (ptd_val (ped_callB (cd_bls (call_any_bools rfl)) rfl bu.n_any (by decide +kernel) (pad_cons (ped_compr 1 [2,4,0,3] ["end", "start", "so_far", "roads", "third"] rfl (pid_list (ped_var 1)) (fun _ _ _ _ _=>(pg_name (i:=0) (show List.Nodup (["end", "start", "so_far", "roads", "third"]:List Str) by decide +kernel) rfl (by first | exact Or.inl rfl | exact Or.inr rfl))) (fun _=>(tg_name 0)) (fun _ _ _ _ _ _=>ptsd_nil) (fun _ _ _ _ _ _=>(ped_cmp od_gt (ped_ix (ped_var 1) (ped_var 0)) (ped_op (od_add.or od_cat) (ped_var 2) (ped_ix (ped_ix (ped_var 3) (ped_var 4)) (ped_var 0)))))) pad_nil))) (psd_one (psd_ret ped_bl)) psd_nil)))))))
  exact psd_one (psd_ret ped_bl)
theorem sc_are_roads:FnScope ["thing"] ["thing"] (defScope s_are_roads):=⟨rfl,rfl,rfl,by decide +kernel,rfl,by decide +kernel,by decide +kernel⟩
def g_are_roads:DS :=
  (dRet (dAndV (dT1 (kCall G_is_square) (dCons (dVar 0) dNil)) (dAndV (dT1 (kCall G_are_lengths) (dCons (dVar 0) dNil)) (dAndV (dT1 (kCall G_are_alike_both_ways) (dCons (dVar 0) dNil)) (dT1 (kCall G_are_straight) (dCons (dVar 0) dNil))))))
def G_are_roads:List D→Option Ev:=mkG 1 ["thing"] g_are_roads
theorem hl_are_roads:∀ ds r,G_are_roads ds=some r→ds.length=1:=fun _ _ e=>mkG_len e
theorem hG_are_roads:∀ ds r,G_are_roads ds=some r→∃ o,g_are_roads (startD ["thing"] ds)=some o∧outEv o=some r:=fun _ _ e=>mkG_ok e
theorem ok_are_roads {P:Program} {w:World} {K:PySem.W.Frag} {mg:Str→Option Value} {base:BHeap} {ad:Addr} {fd:FuncData} (Fn:L2.Fun K "are_roads" "are_roads" s_are_roads ad fd) (bu:Blt mg) (c_is_square:Cal P w K mg base "is_square" 1 G_is_square) (c_are_lengths:Cal P w K mg base "are_lengths" 1 G_are_lengths) (c_are_alike_both_ways:Cal P w K mg base "are_alike_both_ways" 1 G_are_alike_both_ways) (c_are_straight:Cal P w K mg base "are_straight" 1 G_are_straight)
    (hl:∀ ds r,G_are_roads ds=some r→ds.length=1) (hG:∀ ds r,G_are_roads ds=some r→∃ o,g_are_roads (startD ["thing"] ds)=some o∧outEv o=some r):FnOk P w K mg base CX0 2 ad fd ["thing"] (spD K G_are_roads):=by
  have SC:=sc_are_roads
  refine fun_ok (k:=1) Fn SC hl g_are_roads hG (fun cdv A outer s H E F hr=>?_)
  exact psd_one (psd_ret (ped_and (ped_callC c_is_square (hr.mono (by decide)) (pad_cons (ped_var 0) pad_nil)) (ped_and (ped_callC c_are_lengths (hr.mono (by decide)) (pad_cons (ped_var 0) pad_nil)) (ped_and (ped_callC c_are_alike_both_ways (hr.mono (by decide)) (pad_cons (ped_var 0) pad_nil)) (ped_one (ped_callC c_are_straight (hr.mono (by decide)) (pad_cons (ped_var 0) pad_nil)))))))
theorem sc_length_of:FnScope ["roads", "tour"] ["roads", "tour"] (defScope s_length_of):=⟨rfl,rfl,rfl,by decide +kernel,rfl,by decide +kernel,by decide +kernel⟩
def g_length_of:DS :=
  (dRet (dT1 kSum (dCons (dComp 1 [0,1] (fsR1 (dT1 kLen (dCons (dVar 1) dNil))) (gkName 0) dTrue (d2 kIx (d2 kIx (dVar 1) (d2 kIx (dVar 2) (d2 (kI tt2 fun i j => .int (i - j)) (dVar 0) (dC (.int 1))))) (d2 kIx (dVar 2) (dVar 0)))) dNil)))
def G_length_of:List D→Option Ev:=mkG 2 ["roads", "tour"] g_length_of
theorem hl_length_of:∀ ds r,G_length_of ds=some r→ds.length=2:=fun _ _ e=>mkG_len e
theorem hG_length_of:∀ ds r,G_length_of ds=some r→∃ o,g_length_of (startD ["roads", "tour"] ds)=some o∧outEv o=some r:=fun _ _ e=>mkG_ok e
theorem ok_length_of {P:Program} {w:World} {K:PySem.W.Frag} {mg:Str→Option Value} {base:BHeap} {ad:Addr} {fd:FuncData} (Fn:L2.Fun K "length_of" "length_of" s_length_of ad fd) (bu:Blt mg)
    (hl:∀ ds r,G_length_of ds=some r→ds.length=2) (hG:∀ ds r,G_length_of ds=some r→∃ o,g_length_of (startD ["roads", "tour"] ds)=some o∧outEv o=some r):FnOk P w K mg base CX0 1 ad fd ["roads", "tour"] (spD K G_length_of):=by
  have SC:=sc_length_of
  refine fun_ok (k:=0) Fn SC hl g_length_of hG (fun cdv A outer s H E F hr=>?_)
  exact psd_one (psd_ret (ped_callB (cd_sum rfl) rfl bu.n_sum (by decide +kernel) (pad_cons (ped_compr 1 [0,1] ["at", "roads", "tour"] rfl (pid_rng1 rfl bu.n_range (ped_callB cd_len rfl bu.n_len PySem.boot_len (pad_cons (ped_var 1) pad_nil))) (fun _ _ _ _ _=>(pg_name (i:=0) (show List.Nodup (["at", "roads", "tour"]:List Str) by decide +kernel) rfl (by first | exact Or.inl rfl | exact Or.inr rfl))) (fun _=>(tg_name 0)) (fun _ _ _ _ _ _=>ptsd_nil) (fun _ _ _ _ _ _=>(ped_ix (ped_ix (ped_var 1) (ped_ix (ped_var 2) (ped_op od_sub (ped_var 0) ped_int))) (ped_ix (ped_var 2) (ped_var 0))))) pad_nil)))
theorem sc_law_cell:FnScope ["_law_script", "_law_k", "_law_number"] ["_law_script", "_law_k"] (defScope s_law_cell):=⟨rfl,rfl,rfl,by decide +kernel,rfl,by decide +kernel,by decide +kernel⟩
def g_law_cell:DS :=
  (dSeq (dIfS (dBo (d2 (kI tt2 fun i j => .bl (decide (i < j))) (dVar 1) (dT1 kLen (dCons (dVar 0) dNil)))) (dRet (d2 kIx (dVar 0) (dVar 1))) dSkip)
    (dSeq (dAsg 2 (d2 (kOr (kI tt2 fun i j => .int (i + j)) kCat) (d2 (kOr (kI cMul fun i j => .int (i * j)) kRep) (dVar 1) (dVar 1)) (dC (.int 7919))))
    (dSeq (dIfS (dBo (d2 (kI tt2 fun i j => .bl (decide (j < i))) (dT1 kLen (dCons (dVar 0) dNil)) (dC (.int 0)))) (dAsg 2 (d2 (kOr (kI tt2 fun i j => .int (i + j)) kCat) (dVar 2) (d2 (kI cMod fun i j => .int (i.fmod j)) (d2 kIx (dVar 0) (d2 (kI cMod fun i j => .int (i.fmod j)) (d2 (kOr (kI cMul fun i j => .int (i * j)) kRep) (dVar 1) (dC (.int 7))) (dT1 kLen (dCons (dVar 0) dNil)))) (dC (.int 2147483629))))) dSkip)
    (dRet (d2 (kI cMod fun i j => .int (i.fmod j)) (d2 (kOr (kI cMul fun i j => .int (i * j)) kRep) (dVar 2) (dVar 2)) (dC (.int 2147483629)))))))
def G_law_cell:List D→Option Ev:=mkG 2 ["_law_script", "_law_k", "_law_number"] g_law_cell
theorem hl_law_cell:∀ ds r,G_law_cell ds=some r→ds.length=2:=fun _ _ e=>mkG_len e
theorem hG_law_cell:∀ ds r,G_law_cell ds=some r→∃ o,g_law_cell (startD ["_law_script", "_law_k", "_law_number"] ds)=some o∧outEv o=some r:=fun _ _ e=>mkG_ok e
theorem ok_law_cell {P:Program} {w:World} {K:PySem.W.Frag} {mg:Str→Option Value} {base:BHeap} {ad:Addr} {fd:FuncData} (Fn:L2.Fun K "_law_cell" "_law_cell" s_law_cell ad fd) (bu:Blt mg)
    (hl:∀ ds r,G_law_cell ds=some r→ds.length=2) (hG:∀ ds r,G_law_cell ds=some r→∃ o,g_law_cell (startD ["_law_script", "_law_k", "_law_number"] ds)=some o∧outEv o=some r):FnOk P w K mg base CX0 1 ad fd ["_law_script", "_law_k"] (spD K G_law_cell):=by
  have SC:=sc_law_cell
  refine fun_ok (k:=0) Fn SC hl g_law_cell hG (fun cdv A outer s H E F hr=>?_)
  refine psd_cons ?_ ?_
  · exact (psd_if (ptd_cmp od_lt (ped_var 1) (ped_callB cd_len rfl bu.n_len PySem.boot_len (pad_cons (ped_var 0) pad_nil))) (psd_one (psd_ret (ped_ix (ped_var 0) (ped_var 1)))) psd_nil)
  refine psd_cons ?_ ?_
  · exact (psd_set (i:=2) SC.nd rfl (by first | exact Or.inl rfl | exact Or.inr rfl) (ped_op (od_add.or od_cat) (ped_op (od_mul.or od_rep) (ped_var 1) (ped_var 1)) ped_int))
  refine psd_cons ?_ ?_
  · exact (psd_if (ptd_cmp od_gt (ped_callB cd_len rfl bu.n_len PySem.boot_len (pad_cons (ped_var 0) pad_nil)) ped_int) (psd_one (psd_set (i:=2) SC.nd rfl (by first | exact Or.inl rfl | exact Or.inr rfl) (ped_op (od_add.or od_cat) (ped_var 2) (ped_op od_mod (ped_ix (ped_var 0) (ped_op od_mod (ped_op (od_mul.or od_rep) (ped_var 1) ped_int) (ped_callB cd_len rfl bu.n_len PySem.boot_len (pad_cons (ped_var 0) pad_nil)))) ped_int)))) psd_nil)
  exact psd_one (psd_ret (ped_op od_mod (ped_op (od_mul.or od_rep) (ped_var 2) (ped_var 2)) ped_int))
theorem sc_law_mixed:FnScope ["_law_cell_here", "_law_k", "_law_number"] ["_law_cell_here", "_law_k"] (defScope s_law_mixed):=⟨rfl,rfl,rfl,by decide +kernel,rfl,by decide +kernel,by decide +kernel⟩
def g_law_mixed:DS :=
  (dSeq (dAsg 2 (d2 (kI cMod fun i j => .int (i.fmod j)) (d2 (kOr (kI cMul fun i j => .int (i * j)) kRep) (d2 (kOr (kI tt2 fun i j => .int (i + j)) kCat) (d2 (kOr (kI tt2 fun i j => .int (i + j)) kCat) (d2 (kOr (kI tt2 fun i j => .int (i + j)) kCat) (d2 (kI cMod fun i j => .int (i.fmod j)) (dVar 0) (dC (.int 2147483629))) (d2 (kOr (kI cMul fun i j => .int (i * j)) kRep) (d2 (kOr (kI cMul fun i j => .int (i * j)) kRep) (dVar 1) (dVar 1)) (dC (.int 7919)))) (dVar 1)) (dC (.int 1))) (dC (.int 48271))) (dC (.int 2147483587))))
    (dSeq (dAsg 2 (d2 (kI cMod fun i j => .int (i.fmod j)) (d2 (kOr (kI cMul fun i j => .int (i * j)) kRep) (dVar 2) (dVar 2)) (dC (.int 2147483629))))
    (dRet (d2 (kI cMod fun i j => .int (i.fmod j)) (d2 (kOr (kI cMul fun i j => .int (i * j)) kRep) (d2 (kOr (kI tt2 fun i j => .int (i + j)) kCat) (dVar 2) (dVar 1)) (dC (.int 69621))) (dC (.int 2147483563))))))
def G_law_mixed:List D→Option Ev:=mkG 2 ["_law_cell_here", "_law_k", "_law_number"] g_law_mixed
theorem hl_law_mixed:∀ ds r,G_law_mixed ds=some r→ds.length=2:=fun _ _ e=>mkG_len e
theorem hG_law_mixed:∀ ds r,G_law_mixed ds=some r→∃ o,g_law_mixed (startD ["_law_cell_here", "_law_k", "_law_number"] ds)=some o∧outEv o=some r:=fun _ _ e=>mkG_ok e
theorem ok_law_mixed {P:Program} {w:World} {K:PySem.W.Frag} {mg:Str→Option Value} {base:BHeap} {ad:Addr} {fd:FuncData} (Fn:L2.Fun K "_law_mixed" "_law_mixed" s_law_mixed ad fd) (bu:Blt mg)
    (hl:∀ ds r,G_law_mixed ds=some r→ds.length=2) (hG:∀ ds r,G_law_mixed ds=some r→∃ o,g_law_mixed (startD ["_law_cell_here", "_law_k", "_law_number"] ds)=some o∧outEv o=some r):FnOk P w K mg base CX0 1 ad fd ["_law_cell_here", "_law_k"] (spD K G_law_mixed):=by
  have SC:=sc_law_mixed
  refine fun_ok (k:=0) Fn SC hl g_law_mixed hG (fun cdv A outer s H E F hr=>?_)
  refine psd_cons ?_ ?_
  · exact (psd_set (i:=2) SC.nd rfl (by first | exact Or.inl rfl | exact Or.inr rfl) (ped_op od_mod (ped_op (od_mul.or od_rep) (ped_op (od_add.or od_cat) (ped_op (od_add.or od_cat) (ped_op (od_add.or od_cat) (ped_op od_mod (ped_var 0) ped_int) (ped_op (od_mul.or od_rep) (ped_op (od_mul.or od_rep) (ped_var 1) (ped_var 1)) ped_int)) (ped_var 1)) ped_int) ped_int) ped_int))
  refine psd_cons ?_ ?_
  · exact (psd_set (i:=2) SC.nd rfl (by first | exact Or.inl rfl | exact Or.inr rfl) (ped_op od_mod (ped_op (od_mul.or od_rep) (ped_var 2) (ped_var 2)) ped_int))
  exact psd_one (psd_ret (ped_op od_mod (ped_op (od_mul.or od_rep) (ped_op (od_add.or od_cat) (ped_var 2) (ped_var 1)) ped_int) ped_int))
theorem sc_law_row:FnScope ["_law_cell_here", "_law_many", "_law_bounds", "_law_plain", "_law_found", "_law_k", "_law_bound"] ["_law_cell_here", "_law_many", "_law_bounds", "_law_plain"] (defScope s_law_row):=⟨rfl,rfl,rfl,by decide +kernel,rfl,by decide +kernel,by decide +kernel⟩
def g_law_row:DS :=
  (dSeq (dAsg 4 (dT1 kLst dNil))
    (dSeq (dRng1 (gkName 5) (dVar 1) (dSeq (dAsg 6 (d2 kIx (dVar 2) (d2 (kI cMod fun i j => .int (i.fmod j)) (dVar 5) (dT1 kLen (dCons (dVar 2) dNil)))))
    (dIfS (dTr (dVar 3)) (dSeq (dApp 4 (d2 (kI cMod fun i j => .int (i.fmod j)) (dVar 0) (dVar 6)))
    (dAsg 0 (d2 (kI cDiv fun i j => .int (i.fdiv j)) (dVar 0) (dVar 6)))) (dApp 4 (d2 (kI cMod fun i j => .int (i.fmod j)) (dT1 (kCall G_law_mixed) (dCons (dVar 0) (dCons (dVar 5) dNil))) (dVar 6))))))
    (dRetO 4)))
def G_law_row:List D→Option Ev:=mkG 4 ["_law_cell_here", "_law_many", "_law_bounds", "_law_plain", "_law_found", "_law_k", "_law_bound"] g_law_row
theorem hl_law_row:∀ ds r,G_law_row ds=some r→ds.length=4:=fun _ _ e=>mkG_len e
theorem hG_law_row:∀ ds r,G_law_row ds=some r→∃ o,g_law_row (startD ["_law_cell_here", "_law_many", "_law_bounds", "_law_plain", "_law_found", "_law_k", "_law_bound"] ds)=some o∧outEv o=some r:=fun _ _ e=>mkG_ok e
theorem ok_law_row {P:Program} {w:World} {K:PySem.W.Frag} {mg:Str→Option Value} {base:BHeap} {ad:Addr} {fd:FuncData} (Fn:L2.Fun K "_law_row" "_law_row" s_law_row ad fd) (bu:Blt mg) (c_law_mixed:Cal P w K mg base "_law_mixed" 1 G_law_mixed)
    (hl:∀ ds r,G_law_row ds=some r→ds.length=4) (hG:∀ ds r,G_law_row ds=some r→∃ o,g_law_row (startD ["_law_cell_here", "_law_many", "_law_bounds", "_law_plain", "_law_found", "_law_k", "_law_bound"] ds)=some o∧outEv o=some r):FnOk P w K mg base CX0 2 ad fd ["_law_cell_here", "_law_many", "_law_bounds", "_law_plain"] (spD K G_law_row):=by
  have SC:=sc_law_row
  refine fun_ok (k:=1) Fn SC hl g_law_row hG (fun cdv A outer s H E F hr=>?_)
  refine psd_cons ?_ ?_
  · exact (psd_set (i:=4) SC.nd rfl (by first | exact Or.inl rfl | exact Or.inr rfl) (ped_lst pad_nil))
  refine psd_cons ?_ ?_
  · exact (psd_rng1 PassesOwn.never rfl rfl bu.n_range (ped_var 1) (pg_name (i:=5) SC.nd rfl (by first | exact Or.inl rfl | exact Or.inr rfl)) (tg_name 5) (psd_cons (psd_set (i:=6) SC.nd rfl (by first | exact Or.inl rfl | exact Or.inr rfl) (ped_ix (ped_var 2) (ped_op od_mod (ped_var 5) (ped_callB cd_len rfl bu.n_len PySem.boot_len (pad_cons (ped_var 2) pad_nil)))))
    (psd_one (psd_if (ptd_val (ped_var 3)) (psd_cons (psd_app 4 (ped_op od_mod (ped_var 0) (ped_var 6)))
    (psd_one (psd_set (i:=0) SC.nd rfl (by first | exact Or.inl rfl | exact Or.inr rfl) (ped_op od_div (ped_var 0) (ped_var 6))))) (psd_one (psd_app 4 (ped_op od_mod (ped_callC c_law_mixed (hr.mono (by decide)) (pad_cons (ped_var 0) (pad_cons (ped_var 5) pad_nil))) (ped_var 6))))))))
  exact psd_one (psd_retO 4)
theorem sc_law_roads:FnScope ["_law_script", "_law_start", "_law_many", "_law_plain", "_law_bound", "_law_roads_here", "_law_one", "_law_told", "_law_k", "_law_third", "_law_other", "_law_way"] ["_law_script", "_law_start", "_law_many"] (defScope s_law_roads):=⟨rfl,rfl,rfl,by decide +kernel,rfl,by decide +kernel,by decide +kernel⟩
def g_law_roads:DS :=
  (dSeq (dAsg 3 (d2 kEq (d2 (kI cMod fun i j => .int (i.fmod j)) (dT1 (kCall G_law_cell) (dCons (dVar 0) (dCons (dVar 1) dNil))) (dC (.int 2))) (dC (.int 1))))
    (dSeq (dAsg 4 (d2 kIx (dT1 kLst (dCons (dC (.int 4)) (dCons (dC (.int 30)) (dCons (dC (.int 1000)) (dCons (d2 (kOr (kI tt2 fun i j => .int (i + j)) kCat) (d2 (kI cPow fun i j => .int (i ^ j.toNat)) (dC (.int 10)) (dC (.int 12))) (dC (.int 1))) dNil))))) (d2 (kI cMod fun i j => .int (i.fmod j)) (d2 (kI cDiv fun i j => .int (i.fdiv j)) (dT1 (kCall G_law_cell) (dCons (dVar 0) (dCons (dVar 1) dNil))) (dC (.int 2))) (dC (.int 4)))))
    (dSeq (dAsg 5 (dCompN 1 [2] (fsR1 (dVar 2)) (gkName 0) dTrue (d2 (kOr (kI cMul fun i j => .int (i * j)) kRep) (dT1 kLst (dCons (dC (.int 0)) dNil)) (dVar 1))))
    (dSeq (dRng1 (gkName 6) (dVar 2) (dSeq (dAsg 7 (dT1 (kCall G_law_row) (dCons (dT1 (kCall G_law_cell) (dCons (dVar 0) (dCons (d2 (kOr (kI tt2 fun i j => .int (i + j)) kCat) (d2 (kOr (kI tt2 fun i j => .int (i + j)) kCat) (dVar 1) (dC (.int 1))) (dVar 6)) dNil))) (dCons (d2 (kI tt2 fun i j => .int (i - j)) (d2 (kI tt2 fun i j => .int (i - j)) (dVar 2) (dC (.int 1))) (dVar 6)) (dCons (dT1 kLst (dCons (dVar 4) dNil)) (dCons (dVar 3) dNil))))))
    (dRng1 (gkName 8) (d2 (kI tt2 fun i j => .int (i - j)) (d2 (kI tt2 fun i j => .int (i - j)) (dVar 2) (dC (.int 1))) (dVar 6)) (dSeq (dSetP 5 [(dVar 6)] (d2 (kOr (kI tt2 fun i j => .int (i + j)) kCat) (d2 (kOr (kI tt2 fun i j => .int (i + j)) kCat) (dVar 6) (dC (.int 1))) (dVar 8)) (d2 kIx (dVar 7) (dVar 8)))
    (dSetP 5 [(d2 (kOr (kI tt2 fun i j => .int (i + j)) kCat) (d2 (kOr (kI tt2 fun i j => .int (i + j)) kCat) (dVar 6) (dC (.int 1))) (dVar 8))] (dVar 6) (d2 kIx (dVar 7) (dVar 8)))))))
    (dSeq (dRng1 (gkName 9) (dVar 2) (dRng1 (gkName 6) (dVar 2) (dRng1 (gkName 10) (dVar 2) (dSeq (dAsg 11 (d2 (kOr (kI tt2 fun i j => .int (i + j)) kCat) (d2 kIx (d2 kIx (dVar 5) (dVar 6)) (dVar 9)) (d2 kIx (d2 kIx (dVar 5) (dVar 9)) (dVar 10))))
    (dIfS (dBo (d2 (kI tt2 fun i j => .bl (decide (i < j))) (dVar 11) (d2 kIx (d2 kIx (dVar 5) (dVar 6)) (dVar 10)))) (dSetP 5 [(dVar 6)] (dVar 10) (dVar 11)) dSkip)))))
    (dRetO 5))))))
def G_law_roads:List D→Option Ev:=mkG 3 ["_law_script", "_law_start", "_law_many", "_law_plain", "_law_bound", "_law_roads_here", "_law_one", "_law_told", "_law_k", "_law_third", "_law_other", "_law_way"] g_law_roads
theorem hl_law_roads:∀ ds r,G_law_roads ds=some r→ds.length=3:=fun _ _ e=>mkG_len e
theorem hG_law_roads:∀ ds r,G_law_roads ds=some r→∃ o,g_law_roads (startD ["_law_script", "_law_start", "_law_many", "_law_plain", "_law_bound", "_law_roads_here", "_law_one", "_law_told", "_law_k", "_law_third", "_law_other", "_law_way"] ds)=some o∧outEv o=some r:=fun _ _ e=>mkG_ok e
theorem ok_law_roads {P:Program} {w:World} {K:PySem.W.Frag} {mg:Str→Option Value} {base:BHeap} {ad:Addr} {fd:FuncData} (Fn:L2.Fun K "_law_roads" "_law_roads" s_law_roads ad fd) (bu:Blt mg) (c_law_cell:Cal P w K mg base "_law_cell" 1 G_law_cell) (c_law_row:Cal P w K mg base "_law_row" 2 G_law_row)
    (hl:∀ ds r,G_law_roads ds=some r→ds.length=3) (hG:∀ ds r,G_law_roads ds=some r→∃ o,g_law_roads (startD ["_law_script", "_law_start", "_law_many", "_law_plain", "_law_bound", "_law_roads_here", "_law_one", "_law_told", "_law_k", "_law_third", "_law_other", "_law_way"] ds)=some o∧outEv o=some r):FnOk P w K mg base CX0 3 ad fd ["_law_script", "_law_start", "_law_many"] (spD K G_law_roads):=by
  have SC:=sc_law_roads
  refine fun_ok (k:=2) Fn SC hl g_law_roads hG (fun cdv A outer s H E F hr=>?_)
  refine psd_cons ?_ ?_
  · exact (psd_set (i:=3) SC.nd rfl (by first | exact Or.inl rfl | exact Or.inr rfl) (ped_cmp (od_eq hr.units) (ped_op od_mod (ped_callC c_law_cell (hr.mono (by decide)) (pad_cons (ped_var 0) (pad_cons (ped_var 1) pad_nil))) ped_int) ped_int))
  refine psd_cons ?_ ?_
  · exact (psd_set (i:=4) SC.nd rfl (by first | exact Or.inl rfl | exact Or.inr rfl) (ped_ix (by refine ped_lst ?_; exact (by refine pad_cons ?_ ?_ ?_; exact ped_int; exact (by refine pad_cons ?_ ?_ ?_; exact ped_int; exact (by refine pad_cons ?_ ?_ ?_; exact ped_int; exact (by refine pad_cons ?_ ?_ ?_; exact (ped_op (od_add.or od_cat) (ped_op od_pow ped_int ped_int) ped_int); exact pad_nil; exact (star_ns rfl)); exact (star_ns rfl)); exact (star_ns rfl)); exact (star_ns rfl))) (ped_op od_mod (ped_op od_div (ped_callC c_law_cell (hr.mono (by decide)) (pad_cons (ped_var 0) (pad_cons (ped_var 1) pad_nil))) ped_int) ped_int)))
  refine psd_cons ?_ ?_
  · exact (psd_setCN (i:=5) 1 [2] ["_law_place", "_law_many"] SC.nd rfl (Or.inl rfl) rfl (pid_rng1 rfl bu.n_range (ped_var 2)) (fun _ _ _ _ _=>(pg_name (i:=0) (show List.Nodup (["_law_place", "_law_many"]:List Str) by decide +kernel) rfl (by first | exact Or.inl rfl | exact Or.inr rfl))) (fun _=>(tg_name 0)) (fun _ _ _ _ _ _=>ptsd_nil) (fun _ _ _ _ _ _=>(ped_op (od_mul.or od_rep) (ped_lst (pad_cons ped_int pad_nil)) (ped_var 1))))
  refine psd_cons ?_ ?_
  · exact (psd_rng1 PassesOwn.never rfl rfl bu.n_range (ped_var 2) (pg_name (i:=6) SC.nd rfl (by first | exact Or.inl rfl | exact Or.inr rfl)) (tg_name 6) (psd_cons (psd_set (i:=7) SC.nd rfl (by first | exact Or.inl rfl | exact Or.inr rfl) (ped_callC c_law_row (hr.mono (by decide)) (by refine pad_cons ?_ ?_ ?_; exact (ped_callC c_law_cell (hr.mono (by decide)) (pad_cons (ped_var 0) (pad_cons (ped_op (od_add.or od_cat) (ped_op (od_add.or od_cat) (ped_var 1) ped_int) (ped_var 6)) pad_nil))); exact (by refine pad_cons ?_ ?_ ?_; exact (ped_op od_sub (ped_op od_sub (ped_var 2) ped_int) (ped_var 6)); exact (by refine pad_cons ?_ ?_ ?_; exact (ped_lst (pad_cons (ped_var 4) pad_nil)); exact (by refine pad_cons ?_ ?_ ?_; exact (ped_var 3); exact pad_nil; exact (star_ns rfl)); exact (star_ns rfl)); exact (star_ns rfl)); exact (star_ns rfl))))
    (psd_one (psd_rng1 PassesOwn.never rfl rfl bu.n_range (ped_op od_sub (ped_op od_sub (ped_var 2) ped_int) (ped_var 6)) (pg_name (i:=8) SC.nd rfl (by first | exact Or.inl rfl | exact Or.inr rfl)) (tg_name 8) (psd_cons (psd_setP 5 (pl_ix (pl_var 5) (ped_var 6)) (ped_op (od_add.or od_cat) (ped_op (od_add.or od_cat) (ped_var 6) ped_int) (ped_var 8)) (ped_ix (ped_var 7) (ped_var 8)))
    (psd_one (psd_setP 5 (pl_ix (pl_var 5) (ped_op (od_add.or od_cat) (ped_op (od_add.or od_cat) (ped_var 6) ped_int) (ped_var 8))) (ped_var 6) (ped_ix (ped_var 7) (ped_var 8)))))))))
  refine psd_cons ?_ ?_
  · exact (psd_rng1 PassesOwn.never rfl rfl bu.n_range (ped_var 2) (pg_name (i:=9) SC.nd rfl (by first | exact Or.inl rfl | exact Or.inr rfl)) (tg_name 9) (psd_one (psd_rng1 PassesOwn.never rfl rfl bu.n_range (ped_var 2) (pg_name (i:=6) SC.nd rfl (by first | exact Or.inl rfl | exact Or.inr rfl)) (tg_name 6) (psd_one (psd_rng1 PassesOwn.never rfl rfl bu.n_range (ped_var 2) (pg_name (i:=10) SC.nd rfl (by first | exact Or.inl rfl | exact Or.inr rfl)) (tg_name 10) (psd_cons (psd_set (i:=11) SC.nd rfl (by first | exact Or.inl rfl | exact Or.inr rfl) (ped_op (od_add.or od_cat) (ped_ix (ped_ix (ped_var 5) (ped_var 6)) (ped_var 9)) (ped_ix (ped_ix (ped_var 5) (ped_var 9)) (ped_var 10))))
    (psd_one (psd_if (ptd_cmp od_lt (ped_var 11) (ped_ix (ped_ix (ped_var 5) (ped_var 6)) (ped_var 10))) (psd_one (psd_setP 5 (pl_ix (pl_var 5) (ped_var 6)) (ped_var 10) (ped_var 11))) psd_nil))))))))
  exact psd_one (psd_retO 5)
theorem sc_law_are:FnScope ["_law_thing", "_law_many", "_law_row_here", "_law_one", "_law_other", "_law_road", "_law_third"] ["_law_thing"] (defScope s_law_are):=⟨rfl,rfl,rfl,by decide +kernel,rfl,by decide +kernel,by decide +kernel⟩
def g_law_are:DS :=
  (dSeq (dAsg 1 (dT1 kLen (dCons (dVar 0) dNil)))
    (dSeq (dIfS (dBo (d2 (kI tt2 fun i j => .bl (decide (i < j))) (dVar 1) (dC (.int 1)))) (dRet (dC (.bl false))) dSkip)
    (dSeq (dFor (gkName 2) (dVar 0) (dIfS (dBo (d2 kNe (dT1 kLen (dCons (dVar 2) dNil)) (dVar 1))) (dRet (dC (.bl false))) dSkip))
    (dSeq (dRng1 (gkName 3) (dVar 1) (dRng1 (gkName 4) (dVar 1) (dSeq (dAsg 5 (d2 kIx (d2 kIx (dVar 0) (dVar 3)) (dVar 4)))
    (dSeq (dIfS (dOr (dBo (d2 (kI tt2 fun i j => .bl (decide (i < j))) (dVar 5) (dC (.int 0)))) (dOr (dBo (d2 (kI tt2 fun i j => .bl (decide (j < i))) (dVar 5) (d2 (kI cPow fun i j => .int (i ^ j.toNat)) (dC (.int 10)) (dC (.int 12))))) (dOr (dBo (d2 kNe (dVar 5) (d2 kIx (d2 kIx (dVar 0) (dVar 4)) (dVar 3)))) (dAnd (dBo (d2 kEq (dVar 3) (dVar 4))) (dBo (d2 kNe (dVar 5) (dC (.int 0)))))))) (dRet (dC (.bl false))) dSkip)
    (dRng1 (gkName 6) (dVar 1) (dIfS (dBo (d2 (kI tt2 fun i j => .bl (decide (i < j))) (d2 (kOr (kI tt2 fun i j => .int (i + j)) kCat) (d2 kIx (d2 kIx (dVar 0) (dVar 3)) (dVar 6)) (d2 kIx (d2 kIx (dVar 0) (dVar 6)) (dVar 4))) (dVar 5))) (dRet (dC (.bl false))) dSkip))))))
    (dRet (dC (.bl true)))))))
def G_law_are:List D→Option Ev:=mkG 1 ["_law_thing", "_law_many", "_law_row_here", "_law_one", "_law_other", "_law_road", "_law_third"] g_law_are
theorem hl_law_are:∀ ds r,G_law_are ds=some r→ds.length=1:=fun _ _ e=>mkG_len e
theorem hG_law_are:∀ ds r,G_law_are ds=some r→∃ o,g_law_are (startD ["_law_thing", "_law_many", "_law_row_here", "_law_one", "_law_other", "_law_road", "_law_third"] ds)=some o∧outEv o=some r:=fun _ _ e=>mkG_ok e
theorem ok_law_are {P:Program} {w:World} {K:PySem.W.Frag} {mg:Str→Option Value} {base:BHeap} {ad:Addr} {fd:FuncData} (Fn:L2.Fun K "_law_are" "_law_are" s_law_are ad fd) (bu:Blt mg)
    (hl:∀ ds r,G_law_are ds=some r→ds.length=1) (hG:∀ ds r,G_law_are ds=some r→∃ o,g_law_are (startD ["_law_thing", "_law_many", "_law_row_here", "_law_one", "_law_other", "_law_road", "_law_third"] ds)=some o∧outEv o=some r):FnOk P w K mg base CX0 1 ad fd ["_law_thing"] (spD K G_law_are):=by
  have SC:=sc_law_are
  refine fun_ok (k:=0) Fn SC hl g_law_are hG (fun cdv A outer s H E F hr=>?_)
  refine psd_cons ?_ ?_
  · exact (psd_set (i:=1) SC.nd rfl (by first | exact Or.inl rfl | exact Or.inr rfl) (ped_callB cd_len rfl bu.n_len PySem.boot_len (pad_cons (ped_var 0) pad_nil)))
  refine psd_cons ?_ ?_
  · exact (psd_if (ptd_cmp od_lt (ped_var 1) ped_int) (psd_one (psd_ret ped_bl)) psd_nil)
  refine psd_cons ?_ ?_
  · exact (psd_for PassesOwn.never rfl (ped_var 0) (pg_name (i:=2) SC.nd rfl (by first | exact Or.inl rfl | exact Or.inr rfl)) (tg_name 2) (psd_one (psd_if (ptd_cmp (od_ne hr.units) (ped_callB cd_len rfl bu.n_len PySem.boot_len (pad_cons (ped_var 2) pad_nil)) (ped_var 1)) (psd_one (psd_ret ped_bl)) psd_nil)))
  refine psd_cons ?_ ?_
  · exact (psd_rng1 PassesOwn.never rfl rfl bu.n_range (ped_var 1) (pg_name (i:=3) SC.nd rfl (by first | exact Or.inl rfl | exact Or.inr rfl)) (tg_name 3) (psd_one (psd_rng1 PassesOwn.never rfl rfl bu.n_range (ped_var 1) (pg_name (i:=4) SC.nd rfl (by first | exact Or.inl rfl | exact Or.inr rfl)) (tg_name 4) (psd_cons (psd_set (i:=5) SC.nd rfl (by first | exact Or.inl rfl | exact Or.inr rfl) (ped_ix (ped_ix (ped_var 0) (ped_var 3)) (ped_var 4)))
    (psd_cons (psd_if (L2.PW.pt (pwd_or (ptd_cmp od_lt (ped_var 5) ped_int) (pwd_or (ptd_cmp od_gt (ped_var 5) (ped_op od_pow ped_int ped_int)) (pwd_or (ptd_cmp (od_ne hr.units) (ped_var 5) (ped_ix (ped_ix (ped_var 0) (ped_var 4)) (ped_var 3))) (pwd_or1 (L2.PW.pt (pwd_and (ptd_cmp (od_eq hr.units) (ped_var 3) (ped_var 4)) (pwd_and1 (ptd_cmp (od_ne hr.units) (ped_var 5) ped_int))))))))) (psd_one (psd_ret ped_bl)) psd_nil)
    (psd_one (psd_rng1 PassesOwn.never rfl rfl bu.n_range (ped_var 1) (pg_name (i:=6) SC.nd rfl (by first | exact Or.inl rfl | exact Or.inr rfl)) (tg_name 6) (psd_one (psd_if (ptd_cmp od_lt (ped_op (od_add.or od_cat) (ped_ix (ped_ix (ped_var 0) (ped_var 3)) (ped_var 6)) (ped_ix (ped_ix (ped_var 0) (ped_var 6)) (ped_var 4))) (ped_var 5)) (psd_one (psd_ret ped_bl)) psd_nil)))))))))
  exact psd_one (psd_ret ped_bl)
theorem sc_law_spoiled:FnScope ["_law_roads_here", "_law_number", "_law_many", "_law_found", "_law_one", "_law_other", "_law_way"] ["_law_roads_here", "_law_number"] (defScope s_law_spoiled):=⟨rfl,rfl,rfl,by decide +kernel,rfl,by decide +kernel,by decide +kernel⟩
def g_law_spoiled:DS :=
  (dSeq (dAsg 2 (dT1 kLen (dCons (dVar 0) dNil)))
    (dSeq (dAsg 3 (dCompN 1 [] (fsL (dVar 0)) (gkName 0) dTrue (dT1 kList (dCons (dVar 0) dNil))))
    (dSeq (dAsg 4 (d2 (kI cMod fun i j => .int (i.fmod j)) (d2 (kI cDiv fun i j => .int (i.fdiv j)) (dVar 1) (dC (.int 10))) (dVar 2)))
    (dSeq (dAsg 5 (d2 (kI cMod fun i j => .int (i.fmod j)) (d2 (kI cDiv fun i j => .int (i.fdiv j)) (dVar 1) (dC (.int 97))) (dVar 2)))
    (dSeq (dAsg 6 (d2 (kI cMod fun i j => .int (i.fmod j)) (dVar 1) (dC (.int 10))))
    (dSeq (dIfS (dBo (d2 (kI tt2 fun i j => .bl (decide (i < j))) (dVar 6) (dC (.int 3)))) (dSetP 3 [(dVar 4)] (dVar 5) (d2 (kOr (kI tt2 fun i j => .int (i + j)) kCat) (d2 kIx (d2 kIx (dVar 3) (dVar 4)) (dVar 5)) (d2 kIx (dT1 kLst (dCons (dC (.int 1)) (dCons (d1 kNeg (dC (.int 1))) (dCons (dC (.int 7)) dNil)))) (dVar 6)))) dSkip)
    (dSeq (dIfS (dOr (dBo (d2 kEq (dVar 6) (dC (.int 3)))) (dBo (d2 kEq (dVar 6) (dC (.int 4))))) (dSeq (dSetP 3 [(dVar 4)] (dVar 5) (d2 (kOr (kI tt2 fun i j => .int (i + j)) kCat) (d2 kIx (d2 kIx (dVar 3) (dVar 4)) (dVar 5)) (d2 kIx (dT1 kLst (dCons (dC (.int 1)) (dCons (d1 kNeg (dC (.int 1))) dNil))) (d2 (kI tt2 fun i j => .int (i - j)) (dVar 6) (dC (.int 3))))))
    (dSetP 3 [(dVar 5)] (dVar 4) (d2 kIx (d2 kIx (dVar 3) (dVar 4)) (dVar 5)))) dSkip)
    (dSeq (dIfS (dBo (d2 kEq (dVar 6) (dC (.int 5)))) (dSeq (dSetP 3 [(dVar 4)] (dVar 5) (d2 (kOr (kI tt2 fun i j => .int (i + j)) kCat) (d2 (kI cPow fun i j => .int (i ^ j.toNat)) (dC (.int 10)) (dC (.int 12))) (d2 (kI cMod fun i j => .int (i.fmod j)) (d2 (kI cDiv fun i j => .int (i.fdiv j)) (dVar 1) (dC (.int 997))) (dC (.int 2)))))
    (dSetP 3 [(dVar 5)] (dVar 4) (d2 kIx (d2 kIx (dVar 3) (dVar 4)) (dVar 5)))) dSkip)
    (dSeq (dIfS (dBo (d2 kEq (dVar 6) (dC (.int 6)))) (dAppP 3 [(dVar 4)] (dC (.int 0))) dSkip)
    (dSeq (dIfS (dBo (d2 kEq (dVar 6) (dC (.int 7)))) (dPopP 3 [(dVar 4)]) dSkip)
    (dSeq (dIfS (dBo (d2 kEq (dVar 6) (dC (.int 8)))) (dPopAtP 3 [] (dVar 4)) dSkip)
    (dSeq (dIfS (dBo (d2 kEq (dVar 6) (dC (.int 9)))) (dAsg 3 (dT1 kLst dNil)) dSkip)
    (dRetO 3)))))))))))))
def G_law_spoiled:List D→Option Ev:=mkG 2 ["_law_roads_here", "_law_number", "_law_many", "_law_found", "_law_one", "_law_other", "_law_way"] g_law_spoiled
theorem hl_law_spoiled:∀ ds r,G_law_spoiled ds=some r→ds.length=2:=fun _ _ e=>mkG_len e
theorem hG_law_spoiled:∀ ds r,G_law_spoiled ds=some r→∃ o,g_law_spoiled (startD ["_law_roads_here", "_law_number", "_law_many", "_law_found", "_law_one", "_law_other", "_law_way"] ds)=some o∧outEv o=some r:=fun _ _ e=>mkG_ok e
theorem ok_law_spoiled {P:Program} {w:World} {K:PySem.W.Frag} {mg:Str→Option Value} {base:BHeap} {ad:Addr} {fd:FuncData} (Fn:L2.Fun K "_law_spoiled" "_law_spoiled" s_law_spoiled ad fd) (bu:Blt mg)
    (hl:∀ ds r,G_law_spoiled ds=some r→ds.length=2) (hG:∀ ds r,G_law_spoiled ds=some r→∃ o,g_law_spoiled (startD ["_law_roads_here", "_law_number", "_law_many", "_law_found", "_law_one", "_law_other", "_law_way"] ds)=some o∧outEv o=some r):FnOk P w K mg base CX0 1 ad fd ["_law_roads_here", "_law_number"] (spD K G_law_spoiled):=by
  have SC:=sc_law_spoiled
  refine fun_ok (k:=0) Fn SC hl g_law_spoiled hG (fun cdv A outer s H E F hr=>?_)
  refine psd_cons ?_ ?_
  · exact (psd_set (i:=2) SC.nd rfl (by first | exact Or.inl rfl | exact Or.inr rfl) (ped_callB cd_len rfl bu.n_len PySem.boot_len (pad_cons (ped_var 0) pad_nil)))
  refine psd_cons ?_ ?_
  · exact (psd_setCN (i:=3) 1 [] ["_law_row_here"] SC.nd rfl (Or.inl rfl) rfl (pid_list (ped_var 0)) (fun _ _ _ _ _=>(pg_name (i:=0) (show List.Nodup (["_law_row_here"]:List Str) by decide +kernel) rfl (by first | exact Or.inl rfl | exact Or.inr rfl))) (fun _=>(tg_name 0)) (fun _ _ _ _ _ _=>ptsd_nil) (fun _ _ _ _ _ _=>(ped_callT cd_list rfl bu.n_list bt_list (pad_cons (ped_var 0) pad_nil))))
  refine psd_cons ?_ ?_
  · exact (psd_set (i:=4) SC.nd rfl (by first | exact Or.inl rfl | exact Or.inr rfl) (ped_op od_mod (ped_op od_div (ped_var 1) ped_int) (ped_var 2)))
  refine psd_cons ?_ ?_
  · exact (psd_set (i:=5) SC.nd rfl (by first | exact Or.inl rfl | exact Or.inr rfl) (ped_op od_mod (ped_op od_div (ped_var 1) ped_int) (ped_var 2)))
  refine psd_cons ?_ ?_
  · exact (psd_set (i:=6) SC.nd rfl (by first | exact Or.inl rfl | exact Or.inr rfl) (ped_op od_mod (ped_var 1) ped_int))
  refine psd_cons ?_ ?_
  · exact (psd_if (ptd_cmp od_lt (ped_var 6) ped_int) (psd_one (psd_setP 3 (pl_ix (pl_var 3) (ped_var 4)) (ped_var 5) (ped_op (od_add.or od_cat) (ped_ix (ped_ix (ped_var 3) (ped_var 4)) (ped_var 5)) (ped_ix (ped_lst (pad_cons ped_int (pad_cons (ped_neg ped_int) (pad_cons ped_int pad_nil)))) (ped_var 6))))) psd_nil)
  refine psd_cons ?_ ?_
  · exact (psd_if (L2.PW.pt (pwd_or (ptd_cmp (od_eq hr.units) (ped_var 6) ped_int) (pwd_or1 (ptd_cmp (od_eq hr.units) (ped_var 6) ped_int)))) (psd_cons (psd_setP 3 (pl_ix (pl_var 3) (ped_var 4)) (ped_var 5) (ped_op (od_add.or od_cat) (ped_ix (ped_ix (ped_var 3) (ped_var 4)) (ped_var 5)) (ped_ix (ped_lst (pad_cons ped_int (pad_cons (ped_neg ped_int) pad_nil))) (ped_op od_sub (ped_var 6) ped_int))))
    (psd_one (psd_setP 3 (pl_ix (pl_var 3) (ped_var 5)) (ped_var 4) (ped_ix (ped_ix (ped_var 3) (ped_var 4)) (ped_var 5))))) psd_nil)
  refine psd_cons ?_ ?_
  · exact (psd_if (ptd_cmp (od_eq hr.units) (ped_var 6) ped_int) (psd_cons (psd_setP 3 (pl_ix (pl_var 3) (ped_var 4)) (ped_var 5) (ped_op (od_add.or od_cat) (ped_op od_pow ped_int ped_int) (ped_op od_mod (ped_op od_div (ped_var 1) ped_int) ped_int)))
    (psd_one (psd_setP 3 (pl_ix (pl_var 3) (ped_var 5)) (ped_var 4) (ped_ix (ped_ix (ped_var 3) (ped_var 4)) (ped_var 5))))) psd_nil)
  refine psd_cons ?_ ?_
  · exact (psd_if (ptd_cmp (od_eq hr.units) (ped_var 6) ped_int) (psd_one (psd_appP 3 (pl_ix (pl_var 3) (ped_var 4)) ped_int)) psd_nil)
  refine psd_cons ?_ ?_
  · exact (psd_if (ptd_cmp (od_eq hr.units) (ped_var 6) ped_int) (psd_one (psd_popP 3 (pl_ix (pl_var 3) (ped_var 4)))) psd_nil)
  refine psd_cons ?_ ?_
  · exact (psd_if (ptd_cmp (od_eq hr.units) (ped_var 6) ped_int) (psd_one (psd_popAtP 3 (pl_var 3) (ped_var 4))) psd_nil)
  refine psd_cons ?_ ?_
  · exact (psd_if (ptd_cmp (od_eq hr.units) (ped_var 6) ped_int) (psd_one (psd_set (i:=3) SC.nd rfl (by first | exact Or.inl rfl | exact Or.inr rfl) (ped_lst pad_nil))) psd_nil)
  exact psd_one (psd_retO 3)
theorem sc_law_tour:FnScope ["_law_roads_here", "_law_cell_here", "_law_left", "_law_tour_here", "_law_k", "_law_due", "_law_handed", "_law_told"] ["_law_roads_here", "_law_cell_here"] (defScope s_law_tour):=⟨rfl,rfl,rfl,by decide +kernel,rfl,by decide +kernel,by decide +kernel⟩
def g_law_tour:DS :=
  (dSeq (dAsg 2 (dListR (dCons (dT1 kLen (dCons (dVar 0) dNil)) dNil)))
    (dSeq (dAsg 3 (dT1 kLst dNil))
    (dSeq (dRng1 (gkName 4) (dT1 kLen (dCons (dVar 0) dNil)) (dAppPop 3 2 (d2 (kI cMod fun i j => .int (i.fmod j)) (dT1 (kCall G_law_mixed) (dCons (dVar 1) (dCons (dVar 4) dNil))) (dT1 kLen (dCons (dVar 2) dNil)))))
    (dSeq (dAsg 5 (dT1 kSum (dCons (dComp 1 [0,3] (fsR1 (dT1 kLen (dCons (dVar 3) dNil))) (gkName 0) dTrue (d2 kIx (d2 kIx (dVar 1) (d2 kIx (dVar 2) (d2 (kI tt2 fun i j => .int (i - j)) (dVar 0) (dC (.int 1))))) (d2 kIx (dVar 2) (dVar 0)))) dNil)))
    (dSeq (dAsg 6 (dT1 kList (dCons (dVar 3) dNil)))
    (dSeq (dAsg 7 (dT1 (kCall G_length_of) (dCons (dVar 0) (dCons (dVar 6) dNil))))
    (dRet (dAndV (dIsi "int" (dVar 7)) (dAndV (d1 kNotV (dIsi "bool" (dVar 7))) (dAndV (d2 kEq (dVar 7) (dVar 5)) (d2 kEq (dVar 6) (dVar 3))))))))))))
def G_law_tour:List D→Option Ev:=mkG 2 ["_law_roads_here", "_law_cell_here", "_law_left", "_law_tour_here", "_law_k", "_law_due", "_law_handed", "_law_told"] g_law_tour
theorem hl_law_tour:∀ ds r,G_law_tour ds=some r→ds.length=2:=fun _ _ e=>mkG_len e
theorem hG_law_tour:∀ ds r,G_law_tour ds=some r→∃ o,g_law_tour (startD ["_law_roads_here", "_law_cell_here", "_law_left", "_law_tour_here", "_law_k", "_law_due", "_law_handed", "_law_told"] ds)=some o∧outEv o=some r:=fun _ _ e=>mkG_ok e
theorem ok_law_tour {P:Program} {w:World} {K:PySem.W.Frag} {mg:Str→Option Value} {base:BHeap} {ad:Addr} {fd:FuncData} (Fn:L2.Fun K "_law_tour" "_law_tour" s_law_tour ad fd) (bu:Blt mg) (c_law_mixed:Cal P w K mg base "_law_mixed" 1 G_law_mixed) (c_length_of:Cal P w K mg base "length_of" 1 G_length_of)
    (hl:∀ ds r,G_law_tour ds=some r→ds.length=2) (hG:∀ ds r,G_law_tour ds=some r→∃ o,g_law_tour (startD ["_law_roads_here", "_law_cell_here", "_law_left", "_law_tour_here", "_law_k", "_law_due", "_law_handed", "_law_told"] ds)=some o∧outEv o=some r):FnOk P w K mg base CX0 2 ad fd ["_law_roads_here", "_law_cell_here"] (spD K G_law_tour):=by
  have SC:=sc_law_tour
  refine fun_ok (k:=1) Fn SC hl g_law_tour hG (fun cdv A outer s H E F hr=>?_)
  refine psd_cons ?_ ?_
  · exact (psd_set (i:=2) SC.nd rfl (by first | exact Or.inl rfl | exact Or.inr rfl) (ped_listR rfl rfl bu.n_list rfl bu.n_range (pad_cons (ped_callB cd_len rfl bu.n_len PySem.boot_len (pad_cons (ped_var 0) pad_nil)) pad_nil)))
  refine psd_cons ?_ ?_
  · exact (psd_set (i:=3) SC.nd rfl (by first | exact Or.inl rfl | exact Or.inr rfl) (ped_lst pad_nil))
  refine psd_cons ?_ ?_
  · exact (psd_rng1 PassesOwn.never rfl rfl bu.n_range (ped_callB cd_len rfl bu.n_len PySem.boot_len (pad_cons (ped_var 0) pad_nil)) (pg_name (i:=4) SC.nd rfl (by first | exact Or.inl rfl | exact Or.inr rfl)) (tg_name 4) (psd_one (psd_appPop 3 2 (ped_op od_mod (ped_callC c_law_mixed (hr.mono (by decide)) (pad_cons (ped_var 1) (pad_cons (ped_var 4) pad_nil))) (ped_callB cd_len rfl bu.n_len PySem.boot_len (pad_cons (ped_var 2) pad_nil))))))
  refine psd_cons ?_ ?_
  · exact (psd_set (i:=5) SC.nd rfl (by first | exact Or.inl rfl | exact Or.inr rfl) (ped_callB (cd_sum rfl) rfl bu.n_sum (by decide +kernel) (pad_cons (ped_compr 1 [0,3] ["_law_k", "_law_roads_here", "_law_tour_here"] rfl (pid_rng1 rfl bu.n_range (ped_callB cd_len rfl bu.n_len PySem.boot_len (pad_cons (ped_var 3) pad_nil))) (fun _ _ _ _ _=>(pg_name (i:=0) (show List.Nodup (["_law_k", "_law_roads_here", "_law_tour_here"]:List Str) by decide +kernel) rfl (by first | exact Or.inl rfl | exact Or.inr rfl))) (fun _=>(tg_name 0)) (fun _ _ _ _ _ _=>ptsd_nil) (fun _ _ _ _ _ _=>(ped_ix (ped_ix (ped_var 1) (ped_ix (ped_var 2) (ped_op od_sub (ped_var 0) ped_int))) (ped_ix (ped_var 2) (ped_var 0))))) pad_nil)))
  refine psd_cons ?_ ?_
  · exact (psd_set (i:=6) SC.nd rfl (by first | exact Or.inl rfl | exact Or.inr rfl) (ped_callT cd_list rfl bu.n_list bt_list (pad_cons (ped_var 3) pad_nil)))
  refine psd_cons ?_ ?_
  · exact (psd_set (i:=7) SC.nd rfl (by first | exact Or.inl rfl | exact Or.inr rfl) (ped_callC c_length_of (hr.mono (by decide)) (pad_cons (ped_var 0) (pad_cons (ped_var 6) pad_nil))))
  exact psd_one (psd_ret (ped_and (ped_isi isi_int (ped_var 7) rfl bu.n_isinstance rfl bu.n_int bt_int) (ped_and (ped_not (ped_isi isi_bool (ped_var 7) rfl bu.n_isinstance rfl bu.n_bool bt_bool)) (ped_and (ped_cmp (od_eq hr.units) (ped_var 7) (ped_var 5)) (ped_one (ped_cmp (od_eq hr.units) (ped_var 6) (ped_var 3)))))))
theorem sc_law:FnScope ["_law_script", "_law_far", "_law_number", "_law_many", "_law_alike", "_law_roads_here", "_law_kept", "_law_k", "_law_spoiled_here", "_law_found"] ["_law_script"] (defScope s_law):=⟨rfl,rfl,rfl,by decide +kernel,rfl,by decide +kernel,by decide +kernel⟩
def g_law:DS :=
  (dSeq (dAsg 1 (d2 (kI cPow fun i j => .int (i ^ j.toNat)) (dC (.int 10)) (dC (.int 12))))
    (dSeq (dIfS (dOr (dBo (d2 kIsntB (dT1 (kCall G_are_roads) (dCons (dT1 kLst (dCons (dT1 kLst (dCons (dC (.int 0)) (dCons (dVar 1) dNil))) (dCons (dT1 kLst (dCons (dVar 1) (dCons (dC (.int 0)) dNil))) dNil))) dNil)) (dC (.bl true)))) (dBo (d2 kIsntB (dT1 (kCall G_are_roads) (dCons (dT1 kLst (dCons (dT1 kLst (dCons (dC (.int 0)) (dCons (d2 (kOr (kI tt2 fun i j => .int (i + j)) kCat) (dVar 1) (dC (.int 1))) dNil))) (dCons (dT1 kLst (dCons (d2 (kOr (kI tt2 fun i j => .int (i + j)) kCat) (dVar 1) (dC (.int 1))) (dCons (dC (.int 0)) dNil))) dNil))) dNil)) (dC (.bl false))))) (dRet (dC (.bl false))) dSkip)
    (dSeq (dAsg 2 (dT1 (kCall G_law_mixed) (dCons (dT1 (kCall G_law_cell) (dCons (dVar 0) (dCons (dC (.int 0)) dNil))) (dCons (dC (.int 1)) dNil))))
    (dSeq (dIfS (dBo (d2 kEq (d2 (kI cMod fun i j => .int (i.fmod j)) (d2 (kI cDiv fun i j => .int (i.fdiv j)) (dVar 2) (dC (.int 9))) (dC (.int 16))) (dC (.int 5)))) (dSeq (dAsg 3 (d2 (kOr (kI tt2 fun i j => .int (i + j)) kCat) (dC (.int 40)) (d2 (kI cMod fun i j => .int (i.fmod j)) (d2 (kI cDiv fun i j => .int (i.fdiv j)) (dVar 2) (dC (.int 144))) (dC (.int 2)))))
    (dSeq (dAsg 4 (dCompN 1 [2,3] (fsR1 (dVar 3)) (gkName 0) dTrue (dComp 1 [1,0] (fsR1 (dVar 2)) (gkName 0) dTrue (d2 (kOr (kI cMul fun i j => .int (i * j)) kRep) (dVar 1) (dT1 kIntB (dCons (d2 kNe (dVar 2) (dVar 0)) dNil))))))
    (dRet (d2 kEq (dT1 (kCall G_are_roads) (dCons (dVar 4) dNil)) (d2 kEq (dVar 3) (dC (.int 40))))))) dSkip)
    (dSeq (dAsg 3 (d2 (kOr (kI tt2 fun i j => .int (i + j)) kCat) (dC (.int 1)) (d2 (kI cMod fun i j => .int (i.fmod j)) (dVar 2) (dC (.int 9)))))
    (dSeq (dIfS (dBo (d2 kEq (d2 (kI cMod fun i j => .int (i.fmod j)) (d2 (kI cDiv fun i j => .int (i.fdiv j)) (dVar 2) (dC (.int 9))) (dC (.int 8))) (dC (.int 3)))) (dAsg 3 (d2 (kOr (kI tt2 fun i j => .int (i + j)) kCat) (dC (.int 10)) (d2 (kI cMod fun i j => .int (i.fmod j)) (d2 (kI cDiv fun i j => .int (i.fdiv j)) (dVar 2) (dC (.int 72))) (dC (.int 11))))) dSkip)
    (dSeq (dAsg 5 (dT1 (kCall G_law_roads) (dCons (dVar 0) (dCons (dC (.int 1)) (dCons (dVar 3) dNil)))))
    (dSeq (dAsg 6 (dCompN 1 [] (fsL (dVar 5)) (gkName 0) dTrue (dT1 kList (dCons (dVar 0) dNil))))
    (dSeq (dIfS (dOr (dBo (d2 kIsntB (dT1 (kCall G_are_roads) (dCons (dVar 5) dNil)) (dC (.bl true)))) (dNot (dTr (dT1 (kCall G_law_tour) (dCons (dVar 5) (dCons (dT1 (kCall G_law_cell) (dCons (dVar 0) (dCons (dC (.int 20)) dNil))) dNil)))))) (dRet (dC (.bl false))) dSkip)
    (dSeq (dRng2 (gkName 7) (dC (.int 20)) (dT1 (k2I fun i j=>if j > i then j else i) (dCons (dC (.int 21)) (dCons (dT1 (k2I fun i j=>if j < i then j else i) (dCons (dT1 kLen (dCons (dVar 0) dNil)) (dCons (dC (.int 63)) dNil))) dNil))) (dIfS (dOr (dBo (d2 (kI tt2 fun i j => .bl (decide (i < j))) (dVar 3) (dC (.int 10)))) (dBo (d2 kEq (dVar 7) (dC (.int 20))))) (dSeq (dAsg 8 (dT1 (kCall G_law_spoiled) (dCons (dVar 5) (dCons (dT1 (kCall G_law_mixed) (dCons (dT1 (kCall G_law_cell) (dCons (dVar 0) (dCons (dVar 7) dNil))) (dCons (dVar 7) dNil))) dNil))))
    (dSeq (dAsg 9 (dT1 (kCall G_are_roads) (dCons (dVar 8) dNil)))
    (dIfS (dOr (dNot (dTr (dIsi "bool" (dVar 9)))) (dOr (dBo (d2 kNe (dVar 9) (dT1 (kCall G_law_are) (dCons (dVar 8) dNil)))) (dNot (dTr (dT1 (kCall G_law_tour) (dCons (dVar 5) (dCons (dT1 (kCall G_law_cell) (dCons (dVar 0) (dCons (dVar 7) dNil))) dNil))))))) (dRet (dC (.bl false))) dSkip))) dSkip))
    (dRet (d2 kEq (dVar 5) (dVar 6)))))))))))))
def G_law:List D→Option Ev:=mkG 1 ["_law_script", "_law_far", "_law_number", "_law_many", "_law_alike", "_law_roads_here", "_law_kept", "_law_k", "_law_spoiled_here", "_law_found"] g_law
theorem hl_law:∀ ds r,G_law ds=some r→ds.length=1:=fun _ _ e=>mkG_len e
theorem hG_law:∀ ds r,G_law ds=some r→∃ o,g_law (startD ["_law_script", "_law_far", "_law_number", "_law_many", "_law_alike", "_law_roads_here", "_law_kept", "_law_k", "_law_spoiled_here", "_law_found"] ds)=some o∧outEv o=some r:=fun _ _ e=>mkG_ok e
theorem ok_law {P:Program} {w:World} {K:PySem.W.Frag} {mg:Str→Option Value} {base:BHeap} {ad:Addr} {fd:FuncData} (Fn:L2.Fun K "law" "law" s_law ad fd) (bu:Blt mg) (c_are_roads:Cal P w K mg base "are_roads" 2 G_are_roads) (c_law_cell:Cal P w K mg base "_law_cell" 1 G_law_cell) (c_law_mixed:Cal P w K mg base "_law_mixed" 1 G_law_mixed) (c_law_roads:Cal P w K mg base "_law_roads" 3 G_law_roads) (c_law_tour:Cal P w K mg base "_law_tour" 2 G_law_tour) (c_law_spoiled:Cal P w K mg base "_law_spoiled" 1 G_law_spoiled) (c_law_are:Cal P w K mg base "_law_are" 1 G_law_are)
    (hl:∀ ds r,G_law ds=some r→ds.length=1) (hG:∀ ds r,G_law ds=some r→∃ o,g_law (startD ["_law_script", "_law_far", "_law_number", "_law_many", "_law_alike", "_law_roads_here", "_law_kept", "_law_k", "_law_spoiled_here", "_law_found"] ds)=some o∧outEv o=some r):FnOk P w K mg base CX0 4 ad fd ["_law_script"] (spD K G_law):=by
  have SC:=sc_law
  refine fun_ok (k:=3) Fn SC hl g_law hG (fun cdv A outer s H E F hr=>?_)
  refine psd_cons ?_ ?_
  · exact (psd_set (i:=1) SC.nd rfl (by first | exact Or.inl rfl | exact Or.inr rfl) (ped_op od_pow ped_int ped_int))
  refine psd_cons ?_ ?_
  · exact (psd_if (L2.PW.pt (pwd_or (ptd_cmp od_isntB (ped_callC c_are_roads (hr.mono (by decide)) (pad_cons (ped_lst (pad_cons (ped_lst (pad_cons ped_int (pad_cons (ped_var 1) pad_nil))) (pad_cons (ped_lst (pad_cons (ped_var 1) (pad_cons ped_int pad_nil))) pad_nil))) pad_nil)) ped_bl) (pwd_or1 (ptd_cmp od_isntB (ped_callC c_are_roads (hr.mono (by decide)) (pad_cons (ped_lst (pad_cons (ped_lst (pad_cons ped_int (pad_cons (ped_op (od_add.or od_cat) (ped_var 1) ped_int) pad_nil))) (pad_cons (ped_lst (pad_cons (ped_op (od_add.or od_cat) (ped_var 1) ped_int) (pad_cons ped_int pad_nil))) pad_nil))) pad_nil)) ped_bl)))) (psd_one (psd_ret ped_bl)) psd_nil)
  refine psd_cons ?_ ?_
  · exact (psd_set (i:=2) SC.nd rfl (by first | exact Or.inl rfl | exact Or.inr rfl) (ped_callC c_law_mixed (hr.mono (by decide)) (pad_cons (ped_callC c_law_cell (hr.mono (by decide)) (pad_cons (ped_var 0) (pad_cons ped_int pad_nil))) (pad_cons ped_int pad_nil))))
  refine psd_cons ?_ ?_
  · exact (psd_if (ptd_cmp (od_eq hr.units) (ped_op od_mod (ped_op od_div (ped_var 2) ped_int) ped_int) ped_int) (psd_cons (psd_set (i:=3) SC.nd rfl (by first | exact Or.inl rfl | exact Or.inr rfl) (ped_op (od_add.or od_cat) ped_int (ped_op od_mod (ped_op od_div (ped_var 2) ped_int) ped_int)))
    (psd_cons (psd_setCN (i:=4) 1 [2,3] ["_law_one", "_law_number", "_law_many"] SC.nd rfl (Or.inl rfl) rfl (pid_rng1 rfl bu.n_range (ped_var 3)) (fun _ _ _ _ _=>(pg_name (i:=0) (show List.Nodup (["_law_one", "_law_number", "_law_many"]:List Str) by decide +kernel) rfl (by first | exact Or.inl rfl | exact Or.inr rfl))) (fun _=>(tg_name 0)) (fun _ _ _ _ _ _=>ptsd_nil) (fun _ _ _ _ _ _=>(ped_compr 1 [1,0] ["_law_other", "_law_number", "_law_one"] rfl (pid_rng1 rfl bu.n_range (ped_var 2)) (fun _ _ _ _ _=>(pg_name (i:=0) (show List.Nodup (["_law_other", "_law_number", "_law_one"]:List Str) by decide +kernel) rfl (by first | exact Or.inl rfl | exact Or.inr rfl))) (fun _=>(tg_name 0)) (fun _ _ _ _ _ _=>ptsd_nil) (fun _ _ _ _ _ _=>(ped_op (od_mul.or od_rep) (ped_var 1) (ped_callT cd_intB rfl bu.n_int bt_int (pad_cons (ped_cmp (od_ne hr.units) (ped_var 2) (ped_var 0)) pad_nil)))))))
    (psd_one (psd_ret (ped_cmp (od_eq hr.units) (ped_callC c_are_roads (hr.mono (by decide)) (pad_cons (ped_var 4) pad_nil)) (ped_cmp (od_eq hr.units) (ped_var 3) ped_int)))))) psd_nil)
  refine psd_cons ?_ ?_
  · exact (psd_set (i:=3) SC.nd rfl (by first | exact Or.inl rfl | exact Or.inr rfl) (ped_op (od_add.or od_cat) ped_int (ped_op od_mod (ped_var 2) ped_int)))
  refine psd_cons ?_ ?_
  · exact (psd_if (ptd_cmp (od_eq hr.units) (ped_op od_mod (ped_op od_div (ped_var 2) ped_int) ped_int) ped_int) (psd_one (psd_set (i:=3) SC.nd rfl (by first | exact Or.inl rfl | exact Or.inr rfl) (ped_op (od_add.or od_cat) ped_int (ped_op od_mod (ped_op od_div (ped_var 2) ped_int) ped_int)))) psd_nil)
  refine psd_cons ?_ ?_
  · exact (psd_set (i:=5) SC.nd rfl (by first | exact Or.inl rfl | exact Or.inr rfl) (ped_callC c_law_roads (hr.mono (by decide)) (pad_cons (ped_var 0) (pad_cons ped_int (pad_cons (ped_var 3) pad_nil)))))
  refine psd_cons ?_ ?_
  · exact (psd_setCN (i:=6) 1 [] ["_law_row_here"] SC.nd rfl (Or.inl rfl) rfl (pid_list (ped_var 5)) (fun _ _ _ _ _=>(pg_name (i:=0) (show List.Nodup (["_law_row_here"]:List Str) by decide +kernel) rfl (by first | exact Or.inl rfl | exact Or.inr rfl))) (fun _=>(tg_name 0)) (fun _ _ _ _ _ _=>ptsd_nil) (fun _ _ _ _ _ _=>(ped_callT cd_list rfl bu.n_list bt_list (pad_cons (ped_var 0) pad_nil))))
  refine psd_cons ?_ ?_
  · exact (psd_if (L2.PW.pt (pwd_or (ptd_cmp od_isntB (ped_callC c_are_roads (hr.mono (by decide)) (pad_cons (ped_var 5) pad_nil)) ped_bl) (pwd_or1 (ptd_not (ptd_val (ped_callC c_law_tour (hr.mono (by decide)) (pad_cons (ped_var 5) (pad_cons (ped_callC c_law_cell (hr.mono (by decide)) (pad_cons (ped_var 0) (pad_cons ped_int pad_nil))) pad_nil)))))))) (psd_one (psd_ret ped_bl)) psd_nil)
  refine psd_cons ?_ ?_
  · exact (psd_rng2 PassesOwn.never rfl rfl bu.n_range ped_int (ped_callB (cd_max rfl) rfl bu.n_max (by decide +kernel) (pad_cons ped_int (pad_cons (ped_callB (cd_min rfl) rfl bu.n_min (by decide +kernel) (pad_cons (ped_callB cd_len rfl bu.n_len PySem.boot_len (pad_cons (ped_var 0) pad_nil)) (pad_cons ped_int pad_nil))) pad_nil))) (pg_name (i:=7) SC.nd rfl (by first | exact Or.inl rfl | exact Or.inr rfl)) (tg_name 7) (psd_one (psd_if (L2.PW.pt (pwd_or (ptd_cmp od_lt (ped_var 3) ped_int) (pwd_or1 (ptd_cmp (od_eq hr.units) (ped_var 7) ped_int)))) (psd_cons (psd_set (i:=8) SC.nd rfl (by first | exact Or.inl rfl | exact Or.inr rfl) (ped_callC c_law_spoiled (hr.mono (by decide)) (pad_cons (ped_var 5) (pad_cons (ped_callC c_law_mixed (hr.mono (by decide)) (pad_cons (ped_callC c_law_cell (hr.mono (by decide)) (pad_cons (ped_var 0) (pad_cons (ped_var 7) pad_nil))) (pad_cons (ped_var 7) pad_nil))) pad_nil))))
    (psd_cons (psd_set (i:=9) SC.nd rfl (by first | exact Or.inl rfl | exact Or.inr rfl) (ped_callC c_are_roads (hr.mono (by decide)) (pad_cons (ped_var 8) pad_nil)))
    (psd_one (psd_if (L2.PW.pt (pwd_or (ptd_not (ptd_val (ped_isi isi_bool (ped_var 9) rfl bu.n_isinstance rfl bu.n_bool bt_bool))) (pwd_or (ptd_cmp (od_ne hr.units) (ped_var 9) (ped_callC c_law_are (hr.mono (by decide)) (pad_cons (ped_var 8) pad_nil))) (pwd_or1 (ptd_not (ptd_val (ped_callC c_law_tour (hr.mono (by decide)) (pad_cons (ped_var 5) (pad_cons (ped_callC c_law_cell (hr.mono (by decide)) (pad_cons (ped_var 0) (pad_cons (ped_var 7) pad_nil))) pad_nil))))))))) (psd_one (psd_ret ped_bl)) psd_nil)))) psd_nil)))
  exact psd_one (psd_ret (ped_cmp (od_eq hr.units) (ped_var 5) (ped_var 6)))
theorem sm_of {i:Int} (h0 : -1000000000000000000000000000000 ≤ i) (h1:i ≤ 1000000000000000000000000000000):sm i=true:=by
  unfold sm
  refine decide_eq_true ?_
  have e:(2:Nat) ^ 100=1267650600228229401496703205376:=by decide
  have l:i.natAbs < 2 ^ 100:=by rw [e]; omega
  refine Nat.lt_of_lt_of_le l ?_
  unfold DL.bnd
  exact Nat.pow_le_pow_right (by decide) (by decide)
theorem fm {a b:Int} (h:0 < b):0 ≤ a.fmod b∧a.fmod b < b:=fmod_pos h
theorem mixed_lt (c:Int) (k:Nat) (hk:k < 100000):∃ m:Int,G_law_mixed [.int c, .int (k:Int)]=some (.cl (.int m))∧0 ≤ m∧m < 2147483563:=by
  have f1 := @fm c 2147483629 (by decide)
  have hkk:(k:Int) * (k:Int) < 10000000000:=by
    have:k * k ≤ 99999 * 99999:=Nat.mul_le_mul (by omega) (by omega)
    have e:((k * k:Nat):Int)=(k:Int) * (k:Int):=by simp
    rw [← e]; omega
  have hkk0:0 ≤ (k:Int) * (k:Int):=by
    have e:((k * k:Nat):Int)=(k:Int) * (k:Int):=by simp
    rw [← e]; omega
  generalize hq:(k:Int) * (k:Int)=q at hkk hkk0
  have f2 := @fm ((c.fmod 2147483629 + q * 7919 + (k:Int) + 1) * 48271) 2147483587 (by decide)
  generalize h2:((c.fmod 2147483629 + q * 7919 + (k:Int) + 1) * 48271).fmod 2147483587=n2 at f2
  have f2b:n2 * n2 ≤ 2147483587 * 2147483587:=Int.mul_le_mul (by omega) (by omega) (by omega) (by decide)
  have f3 := @fm (n2 * n2) 2147483629 (by decide)
  generalize h3:(n2 * n2).fmod 2147483629=n3 at f3
  have f4 := @fm ((n3 + (k:Int)) * 69621) 2147483563 (by decide)
  refine ⟨((n3 + (k:Int)) * 69621).fmod 2147483563,?_,f4⟩
  refine bnd (g:=g_law_mixed [.val (.int c), .val (.int (k:Int)), .no]) ?_
  unfold g_law_mixed
  rw [seq_nx (asg_cl (d := .int n2) (by
    rw [← h2, ← hq]
    exact mod_of (mul_of (add_of (add_of (add_of (mod_of rfl rfl (by decide)) (mul_of (mul_of rfl rfl (sm_of (by omega) (by omega)) (sm_of (by omega) (by omega))) rfl (by rw [hq]; exact sm_of (by omega) (by omega)) (by decide +kernel))) rfl) rfl) rfl (by rw [hq]; exact sm_of (by omega) (by omega)) (by decide +kernel)) rfl (by decide)) (by simp))]
  rw [seq_nx (asg_cl (d := .int n3) (by
    rw [← h3]
    exact mod_of (mul_of rfl rfl (sm_of (by omega) (by omega)) (sm_of (by omega) (by omega))) rfl (by decide)) (by simp))]
  unfold dRet
  rw [mod_of (mul_of (add_of (a:=n3) (b:=(k:Int)) rfl rfl) rfl (sm_of (by omega) (by omega)) (by decide +kernel)) rfl (by decide)]
  rfl
theorem mixed_ok (c:Int) (k:Nat) (hk:k < 100000):∃ m:Int,G_law_mixed [.int c, .int (k:Int)]=some (.cl (.int m))∧0 ≤ m :=
  let ⟨m,e,h⟩:=mixed_lt c k hk
  ⟨m,e,h.1⟩
theorem cell_ok (ns:List Int) (hl:ns.length ≤ 63) (k:Nat) (hk:k < 100000):∃ c:Int,G_law_cell [.lst (ns.map D.int), .int (k:Int)]=some (.cl (.int c)):=by
  have len:∀ s2,(dT1 kLen (dCons (dVar 0) dNil)) [.val (.lst (ns.map D.int)), .val (.int (k:Int)),s2]=some (.cl (.int (ns.length:Int))):=fun s2=>len_of (xs:=ns) rfl rfl
  by_cases h:k < ns.length
  · refine ⟨ns.getD k 0,bnd (g:=g_law_cell [.val (.lst (ns.map D.int)), .val (.int (k:Int)), .no]) ?_⟩
    unfold g_law_cell
    refine seq_rt ?_
    rw [ifs_t (lt_of rfl (len .no)) (decide_eq_true (by omega))]
    unfold dRet
    rw [ixe_of ns k rfl rfl h rfl rfl]
    rfl
  · have hkk:(k:Int) * (k:Int) < 10000000000:=by
      have:k * k ≤ 99999 * 99999:=Nat.mul_le_mul (by omega) (by omega)
      have e:((k * k:Nat):Int)=(k:Int) * (k:Int):=by simp
      rw [← e]; omega
    have hkk0:0 ≤ (k:Int) * (k:Int):=by
      have e:((k * k:Nat):Int)=(k:Int) * (k:Int):=by simp
      rw [← e]; omega
    generalize hq:(k:Int) * (k:Int)=q at hkk hkk0
    have fin:∀ n:Int,0 ≤ n→n ≤ 100000000000→∀ s0 s1,dRet (d2 (kI cMod fun i j => .int (i.fmod j)) (d2 (kOr (kI cMul fun i j => .int (i * j)) kRep) (dVar 2) (dVar 2)) (dC (.int 2147483629))) [s0,s1, .val (.int n)]=some (.rt (.cl (.int ((n * n).fmod 2147483629)))):=fun n h0 h1 s0 s1=>by
      unfold dRet
      rw [mod_of (mul_of (a:=n) (b:=n) rfl rfl (sm_of (by omega) (by omega)) (sm_of (by omega) (by omega))) rfl (by decide)]
      rfl
    have a1:dAsg 2 (d2 (kOr (kI tt2 fun i j => .int (i + j)) kCat) (d2 (kOr (kI cMul fun i j => .int (i * j)) kRep) (dVar 1) (dVar 1)) (dC (.int 7919))) [.val (.lst (ns.map D.int)), .val (.int (k:Int)), .no]=some (.nx [.val (.lst (ns.map D.int)), .val (.int (k:Int)), .val (.int (q + 7919))]):=by
      rw [← hq]
      exact asg_cl (add_of (mul_of rfl rfl (sm_of (by omega) (by omega)) (sm_of (by omega) (by omega))) rfl) (by simp)
    cases ns with
    | nil =>
      refine ⟨((q + 7919) * (q + 7919)).fmod 2147483629,bnd (g:=g_law_cell [.val (.lst (([]:List Int).map D.int)), .val (.int (k:Int)), .no]) ?_⟩
      unfold g_law_cell
      rw [seq_nx (grd (lt_of rfl (len .no)) (decide_eq_false (by simp))),seq_nx a1,seq_nx (grd (gt_of (len _) rfl) (by simp))]
      exact fin _ (by omega) (by omega) _ _
    | cons n0 r0 =>
      have f0 := @fm ((k:Int) * 7) ((n0 :: r0).length:Int) (by simp)
      obtain ⟨m,hm⟩:=Int.eq_ofNat_of_zero_le f0.1
      have hml:m < (n0 :: r0).length:=by omega
      have f1 := @fm ((n0 :: r0).getD m 0) 2147483629 (by decide)
      refine ⟨((q + 7919 + ((n0 :: r0).getD m 0).fmod 2147483629) * (q + 7919 + ((n0 :: r0).getD m 0).fmod 2147483629)).fmod 2147483629,bnd (g:=g_law_cell [.val (.lst ((n0 :: r0).map D.int)), .val (.int (k:Int)), .no]) ?_⟩
      unfold g_law_cell
      rw [seq_nx (grd (lt_of rfl (len .no)) (decide_eq_false (by omega))),seq_nx a1]
      have a2:dAsg 2 (d2 (kOr (kI tt2 fun i j => .int (i + j)) kCat) (dVar 2) (d2 (kI cMod fun i j => .int (i.fmod j)) (d2 kIx (dVar 0) (d2 (kI cMod fun i j => .int (i.fmod j)) (d2 (kOr (kI cMul fun i j => .int (i * j)) kRep) (dVar 1) (dC (.int 7))) (dT1 kLen (dCons (dVar 0) dNil)))) (dC (.int 2147483629)))) [.val (.lst ((n0 :: r0).map D.int)), .val (.int (k:Int)), .val (.int (q + 7919))]=some (.nx [.val (.lst ((n0 :: r0).map D.int)), .val (.int (k:Int)), .val (.int (q + 7919 + ((n0 :: r0).getD m 0).fmod 2147483629))]):=by
        refine asg_cl (add_of rfl (mod_of (ixe_of (r2 := .cl (.int (m:Int))) (n0 :: r0) m rfl ?_ hml rfl rfl) rfl (by decide))) (by simp)
        rw [← hm]
        exact mod_of (mul_of (a:=(k:Int)) (b:=7) rfl rfl (sm_of (by omega) (by omega)) (by decide +kernel)) (len _) (by simp; omega)
      have a3:(dIfS (dBo (d2 (kI tt2 fun i j => .bl (decide (j < i))) (dT1 kLen (dCons (dVar 0) dNil)) (dC (.int 0)))) (dAsg 2 (d2 (kOr (kI tt2 fun i j => .int (i + j)) kCat) (dVar 2) (d2 (kI cMod fun i j => .int (i.fmod j)) (d2 kIx (dVar 0) (d2 (kI cMod fun i j => .int (i.fmod j)) (d2 (kOr (kI cMul fun i j => .int (i * j)) kRep) (dVar 1) (dC (.int 7))) (dT1 kLen (dCons (dVar 0) dNil)))) (dC (.int 2147483629))))) dSkip) [.val (.lst ((n0 :: r0).map D.int)), .val (.int (k:Int)), .val (.int (q + 7919))]=some (.nx [.val (.lst ((n0 :: r0).map D.int)), .val (.int (k:Int)), .val (.int (q + 7919 + ((n0 :: r0).getD m 0).fmod 2147483629))]):=by
        rw [ifs_t (gt_of (len _) rfl) (decide_eq_true (by simp))]
        exact a2
      rw [seq_nx a3]
      exact fin _ (by omega) (by omega) _ _
structure Rds (n:Nat) (M:List (List Int)):Prop where
  sq:Sq n M
  nn:∀ i j:Nat,i < n→j < n→0 ≤ (M.getD i []).getD j 0
  dg:∀ i:Nat,i < n→(M.getD i []).getD i 0=0
theorem eqv_of {fa fb:DE} {t:Th} {a b:Int} (h1:fa t=some (.cl (.int a))) (h2:fb t=some (.cl (.int b))):(d2 kEq fa fb) t=some (.cl (.bl (decide (a=b)))):=by
  rw [d2_of h1 h2]
  have:kEq (.cl (.int a)) (.cl (.int b))=some (.cl (.bl (eqD (.int a) (.int b)))):=rfl
  rw [this,eqD_int]
def bdRw:DS:=(dSeq (dAsg 6 (d2 kIx (dVar 2) (d2 (kI cMod fun i j => .int (i.fmod j)) (dVar 5) (dT1 kLen (dCons (dVar 2) dNil)))))
    (dIfS (dTr (dVar 3)) (dSeq (dApp 4 (d2 (kI cMod fun i j => .int (i.fmod j)) (dVar 0) (dVar 6)))
    (dAsg 0 (d2 (kI cDiv fun i j => .int (i.fdiv j)) (dVar 0) (dVar 6)))) (dApp 4 (d2 (kI cMod fun i j => .int (i.fmod j)) (dT1 (kCall G_law_mixed) (dCons (dVar 0) (dCons (dVar 5) dNil))) (dVar 6)))))
abbrev tRw (c:Int) (s1:Sl) (q:Int) (b:Bool) (xs:List Int) (s5 s6:Sl):Th:=[.val (.int c),s1, .val (.lst [.int q]), .val (.bl b), .own (xs.map D.int),s5,s6]
theorem turn_rw (c:Int) (s1:Sl) {q:Int} (q0:0 < q) (q1:q ≤ 1000000000000000) (b:Bool) (xs:List Int) (hl:xs.length < 100000) (k:Nat) (hk:k < 100000) (s6:Sl):∃ x c',0 ≤ x∧x < q∧bdRw (tRw c s1 q b xs (.val (.int (k:Int))) s6)=some (.nx (tRw c' s1 q b (xs ++ [x]) (.val (.int (k:Int))) (.val (.int q)))):=by
  have e1:(d2 kIx (dVar 2) (d2 (kI cMod fun i j => .int (i.fmod j)) (dVar 5) (dT1 kLen (dCons (dVar 2) dNil)))) (tRw c s1 q b xs (.val (.int (k:Int))) s6)=some (.cl (.int q)):=by
    have m:=mod_of (fa:=dVar 5) (fb:=dT1 kLen (dCons (dVar 2) dNil)) (t:=tRw c s1 q b xs (.val (.int (k:Int))) s6) (a:=(k:Int)) (b:=1) rfl rfl (by decide)
    have z:(k:Int).fmod 1=0:=by have:=fm (a:=(k:Int)) (b:=1) (by decide); omega
    rw [z] at m
    exact (d2_of (rfl:dVar 2 _=some (.cl (.lst [.int q]))) m).trans rfl
  have E1:=asg_cl (i:=6) e1 (by simp)
  let t:Th:=tRw c s1 q b xs (.val (.int (k:Int))) (.val (.int q))
  have cc:dTr (dVar 3) t=some b:=rfl
  unfold bdRw
  cases b with
  | true =>
    refine ⟨c.fmod q,c.fdiv q,(fm q0).1,(fm q0).2,(seq_nx E1).trans ?_⟩
    refine (ifs_t cc rfl).trans ?_
    have a1:=app_map (i:=4) t (xs:=xs) (mod_of (fa:=dVar 0) (fb:=dVar 6) (t:=t) (a:=c) (b:=q) rfl rfl (by omega)) rfl hl
    refine (seq_nx a1).trans ?_
    exact asg_cl (i:=0) (div_of (fa:=dVar 0) (fb:=dVar 6) (a:=c) (b:=q) rfl rfl (by omega) (sm_of (by omega) (by omega))) (by simp [t])
  | false =>
    obtain ⟨m,em,_⟩:=mixed_ok c k hk
    refine ⟨m.fmod q,c,(fm q0).1,(fm q0).2,(seq_nx E1).trans ?_⟩
    refine (ifs_f cc rfl).trans ?_
    have e2:(dT1 (kCall G_law_mixed) (dCons (dVar 0) (dCons (dVar 5) dNil))) t=some (.cl (.int m)):=(t2_of (rfl:dVar 0 t=some (.cl (.int c))) (rfl:dVar 5 t=some (.cl (.int (k:Int))))).trans (callc em rfl)
    exact app_map (i:=4) t (xs:=xs) (mod_of e2 (fb:=dVar 6) (b:=q) rfl (by omega)) rfl hl
theorem row_is (c:Int) {q:Int} (q0:0 < q) (q1:q ≤ 1000000000000000) (b:Bool) (m:Nat) (hm:m ≤ 1000):∃ xs:List Int,xs.length=m∧(∀ x ∈ xs,0 ≤ x∧x < q)∧G_law_row [.int c, .int (m:Int), .lst [.int q], .bl b]=some (.nw (xs.map D.int)):=by
  have L:∀ (l:List Nat) (xs:List Int) (c:Int) (s5 s6:Sl),(∀ k ∈ l,k < 100000)→xs.length + l.length < 100000→(∀ x ∈ xs,0 ≤ x∧x < q)→∃ (ys:List Int) (c':Int) (u5 u6:Sl),ys.length=xs.length + l.length∧(∀ x ∈ ys,0 ≤ x∧x < q)∧forD (gkName 5) bdRw (l.map fun (k:Nat)=>D.int (k:Int)) (tRw c (.val (.int (m:Int))) q b xs s5 s6)=some (.nx (tRw c' (.val (.int (m:Int))) q b ys u5 u6)):=by
    intro l
    induction l with
    | nil=>exact fun xs c s5 s6 _ _ hx=>⟨xs,c,s5,s6,rfl,hx,rfl⟩
    | cons k l ih =>
      intro xs c s5 s6 hk hl hx
      simp only [List.length_cons] at hl
      obtain ⟨x,c',x0,x1,e⟩:=turn_rw c (.val (.int (m:Int))) q0 q1 b xs (by omega) k (hk k (List.mem_cons_self ..)) s6
      obtain ⟨ys,c2,u5,u6,yl,yr,e'⟩:=ih (xs ++ [x]) c' (.val (.int (k:Int))) (.val (.int q)) (fun j hj=>hk j (List.mem_cons_of_mem _ hj)) (by simp only [List.length_append,List.length_singleton]; omega) (fun y hy=>by
        rcases List.mem_append.mp hy with w | w
        · exact hx y w
        · rw [List.mem_singleton] at w; subst w; exact ⟨x0,x1⟩)
      refine ⟨ys,c2,u5,u6,by simp only [List.length_append,List.length_singleton] at yl; simp only [List.length_cons]; omega,yr,?_⟩
      have e0:gkName 5 (.int (k:Int)) (tRw c (.val (.int (m:Int))) q b xs s5 s6)=some (tRw c (.val (.int (m:Int))) q b xs (.val (.int (k:Int))) s6):=rfl
      simp only [List.map_cons,forD,e0,Option.bind_some,e]
      exact e'
  obtain ⟨ys,c',u5,u6,yl,yr,e⟩:=L (List.range m) [] c .no .no (fun k hk=>by have:=List.mem_range.mp hk; omega) (by simp; omega) (fun x hx=>by cases hx)
  refine ⟨ys,by simpa using yl,yr,?_⟩
  show (g_law_row [.val (.int c), .val (.int (m:Int)), .val (.lst [.int q]), .val (.bl b), .no, .no, .no]).bind outEv=_
  have E1:dAsg 4 (dT1 kLst dNil) [.val (.int c), .val (.int (m:Int)), .val (.lst [.int q]), .val (.bl b), .no, .no, .no]=some (.nx (tRw c (.val (.int (m:Int))) q b [] .no .no)):=rfl
  have en:(natsI m).map D.int=(List.range m).map fun (k:Nat)=>D.int (k:Int):=by unfold natsI; rw [List.map_map]; rfl
  have E2:dRng1 (gkName 5) (dVar 1) bdRw (tRw c (.val (.int (m:Int))) q b [] .no .no)=some (.nx (tRw c' (.val (.int (m:Int))) q b ys u5 u6)):=(rng1_of (r := .cl (.int (m:Int))) (n:=m) rfl rfl (by omega)).trans ((congrArg (fun l=>forD (gkName 5) bdRw l (tRw c (.val (.int (m:Int))) q b [] .no .no)) en).trans e)
  refine bnd ?_
  refine (seq_nx E1).trans ?_
  refine (seq_nx E2).trans ?_
  rfl
theorem rds_set {n:Nat} {M:List (List Int)} (R:Rds n M) {i j:Nat} {v:Int} (hi:i < n) (hj:j < n) (hij:i ≠ j) (v0:0 ≤ v):Rds n (setM M i j v):=by
  refine ⟨setM_sq R.sq v hi,fun a b ha hb=>?_,fun a ha=>?_⟩
  · rw [setM_get R.sq v hi hj]
    split
    · exact v0
    · exact R.nn a b ha hb
  · rw [setM_get R.sq v hi hj,if_neg (fun w=>hij (by rw [← w.1, ← w.2])),R.dg a ha]
theorem rds_zero (n:Nat):Rds n (List.replicate n (List.replicate n 0)):=by
  have g:∀ i j:Nat,((List.replicate n (List.replicate n (0:Int))).getD i []).getD j 0=0:=fun i j=>by
    simp only [List.getD_eq_getElem?_getD,List.getElem?_replicate]
    split
    · simp only [Option.getD_some,List.getElem?_replicate]
      split <;> rfl
    · rfl
  exact ⟨⟨by simp,fun r hr=>by rw [List.mem_replicate] at hr; rw [hr.2]; simp⟩,fun i j _ _=>by rw [g]; exact Int.le_refl _,fun i _=>g i i⟩
abbrev eM (M:List (List Int)) (i j:Nat):Int:=(M.getD i []).getD j 0
def SyM (n:Nat) (M:List (List Int)):Prop := ∀ i j:Nat,i < n→j < n→eM M i j=eM M j i
def nxM (M:List (List Int)) (t i j:Nat):Int:=if eM M i t + eM M t j < eM M i j then eM M i t + eM M t j else eM M i j
def TrM (n k:Nat) (M:List (List Int)):Prop := ∀ t i j:Nat,t < k→i < n→j < n→eM M i j ≤ eM M i t + eM M t j
theorem nx_row {n:Nat} {M:List (List Int)} (R:Rds n M) {t i:Nat} (ht:t < n) (hi:i < n):nxM M t i t=eM M i t:=by
  have:=R.dg t ht
  unfold nxM eM
  rw [this]
  split <;> omega
theorem nx_col {n:Nat} {M:List (List Int)} (R:Rds n M) {t j:Nat} (ht:t < n) (hj:j < n):nxM M t t j=eM M t j:=by
  have:=R.dg t ht
  unfold nxM eM
  rw [this]
  split <;> omega
theorem nx_le {M:List (List Int)} (t i j:Nat):nxM M t i j ≤ eM M i j∧nxM M t i j ≤ eM M i t + eM M t j∧(nxM M t i j=eM M i j ∨ nxM M t i j=eM M i t + eM M t j):=by
  unfold nxM
  split <;> omega
theorem nx_tri {n k:Nat} {M M':List (List Int)} (R:Rds n M) (T:TrM n k M) (hk:k < n) (h:∀ i j:Nat,i < n→j < n→eM M' i j=nxM M k i j):TrM n (k + 1) M':=by
  intro t i j ht hi hj
  rw [h i j hi hj,h i t hi (by omega),h t j (by omega) hj]
  obtain ⟨a1,a2,a3⟩:=nx_le (M:=M) k i j
  by_cases e:t=k
  · subst e
    rw [nx_row R hk hi,nx_col R hk hj]
    exact a2
  · have tk:t < k:=by omega
    obtain ⟨b1,b2,b3⟩:=nx_le (M:=M) k i t
    obtain ⟨c1,c2,c3⟩:=nx_le (M:=M) k t j
    have q1:=T t i j tk hi hj
    have q2:=T t i k tk hi hk
    have q3:=T t k j tk hk hj
    have z1:0 ≤ eM M k t:=R.nn k t hk (by omega)
    have z2:0 ≤ eM M t k:=R.nn t k (by omega) hk
    rcases b3 with b | b <;> rcases c3 with c | c <;> rw [b,c] <;> omega
theorem nx_sym {n k:Nat} {M M':List (List Int)} (S:SyM n M) (hk:k < n) (h:∀ i j:Nat,i < n→j < n→eM M' i j=nxM M k i j):SyM n M':=by
  intro i j hi hj
  rw [h i j hi hj,h j i hj hi]
  unfold nxM
  rw [S i j hi hj,S i k hi hk,S k j hk hj,Int.add_comm]
theorem sy_set2 {n:Nat} {M:List (List Int)} (Q:Sq n M) (S:SyM n M) {i j:Nat} {v:Int} (hi:i < n) (hj:j < n):SyM n (setM (setM M i j v) j i v):=by
  intro a b ha hb
  have Q1:=setM_sq Q v hi (j:=j)
  show eM (setM (setM M i j v) j i v) a b=eM (setM (setM M i j v) j i v) b a
  unfold eM
  rw [setM_get Q1 v hj hi,setM_get Q1 v hj hi,setM_get Q v hi hj,setM_get Q v hi hj]
  have s:(M.getD a []).getD b 0=(M.getD b []).getD a 0:=S a b ha hb
  by_cases c1:a=j∧b=i
  · rw [if_pos c1]
    by_cases c2:b=j∧a=i
    · rw [if_pos c2]
    · rw [if_neg c2,if_pos ⟨c1.2,c1.1⟩]
  · rw [if_neg c1]
    by_cases c2:b=j∧a=i
    · rw [if_pos c2,if_pos ⟨c2.2,c2.1⟩]
    · rw [if_neg c2,if_neg (fun z=>c2 ⟨z.2,z.1⟩),if_neg (fun z=>c1 ⟨z.2,z.1⟩)]
      exact s
theorem sy_zero (n:Nat):SyM n (List.replicate n (List.replicate n 0)):=by
  have g:∀ i j:Nat,((List.replicate n (List.replicate n (0:Int))).getD i []).getD j 0=0:=fun i j=>by
    simp only [List.getD_eq_getElem?_getD,List.getElem?_replicate]
    split
    · simp only [Option.getD_some,List.getElem?_replicate]
      split <;> rfl
    · rfl
  intro i j _ _
  exact (g i j).trans (g j i).symm
def BdM (n:Nat) (M:List (List Int)):Prop := ∀ i j:Nat,i < n→j < n→eM M i j ≤ 1000000000000
theorem bd_set {n:Nat} {M:List (List Int)} (Q:Sq n M) (S:BdM n M) {i j:Nat} {v:Int} (hi:i < n) (hj:j < n) (hv:v ≤ 1000000000000):BdM n (setM M i j v):=by
  intro a b ha hb
  unfold eM
  rw [setM_get Q v hi hj]
  split
  · exact hv
  · exact S a b ha hb
theorem bd_zero (n:Nat):BdM n (List.replicate n (List.replicate n 0)):=by
  have g:∀ i j:Nat,((List.replicate n (List.replicate n (0:Int))).getD i []).getD j 0=0:=fun i j=>by
    simp only [List.getD_eq_getElem?_getD,List.getElem?_replicate]
    split
    · simp only [Option.getD_some,List.getElem?_replicate]
      split <;> rfl
    · rfl
  intro i j _ _
  show ((List.replicate n (List.replicate n (0:Int))).getD i []).getD j 0 ≤ _
  rw [g]
  decide
theorem natsI_dr {n k:Nat} (hk:k < n):(natsI n).drop k=(k:Int) :: (natsI n).drop (k + 1):=by
  rw [List.drop_eq_getElem_cons (by rw [natsI_len]; exact hk)]
  congr 1
  simp [natsI]
theorem for_K {n i:Nat} {b:DS} {P:Nat→Th→Prop} (hb:∀ (x:Nat),x < n→∀ t,P x t→∃ t1 t2,gkName i (.int (x:Int)) t=some t1∧b t1=some (.nx t2)∧P (x + 1) t2):∀ (j k:Nat) (t:Th),k + j=n→P k t→∃ t',forD (gkName i) b (((natsI n).drop k).map D.int) t=some (.nx t')∧P n t'
  | 0,k,t,e,h=>by
    have:k=n:=by omega
    subst this
    rw [show (natsI k).drop k=[] from List.drop_eq_nil_of_le (by rw [natsI_len]; exact Nat.le_refl _)]
    exact ⟨t,rfl,h⟩
  | j + 1,k,t,e,h=>by
    obtain ⟨t1,t2,e1,e2,h2⟩:=hb k (by omega) t h
    obtain ⟨t',e',h'⟩:=for_K hb j (k + 1) t2 (by omega) h2
    refine ⟨t',?_,h'⟩
    rw [natsI_dr (by omega)]
    simp only [List.map_cons,forD,e1,Option.bind_some,e2]
    exact e'
theorem rng_K {n:Nat} (hn:n ≤ 1000) {i:Nat} {b:DS} {P:Nat→Th→Prop} {f:DE} (hb:∀ (x:Nat),x < n→∀ t,P x t→∃ t1 t2,gkName i (.int (x:Int)) t=some t1∧b t1=some (.nx t2)∧P (x + 1) t2) (t:Th) (hf:f t=some (.cl (.int (n:Int)))) (h:P 0 t):∃ t',dRng1 (gkName i) f b t=some (.nx t')∧P n t':=by
  obtain ⟨t',e,h'⟩:=for_K hb n 0 t (by omega) h
  exact ⟨t',(rng1_of (n:=n) hf rfl (by omega)).trans e,h'⟩
abbrev tR (a b c d e:Sl) (M:List (List Int)) (s6 s7 s8 s9 s10 s11:Sl):Th:=[a,b,c,d,e, .dp (mD M),s6,s7,s8,s9,s10,s11]
def pK:DE:=(d2 (kOr (kI tt2 fun i j => .int (i + j)) kCat) (d2 (kOr (kI tt2 fun i j => .int (i + j)) kCat) (dVar 6) (dC (.int 1))) (dVar 8))
def bdI1:DS:=(dSeq (dSetP 5 [(dVar 6)] pK (d2 kIx (dVar 7) (dVar 8))) (dSetP 5 [pK] (dVar 6) (d2 kIx (dVar 7) (dVar 8))))
theorem turn_I1 (a b c d e s9 s10 s11:Sl) {n:Nat} {M:List (List Int)} (R:Rds n M) (Y:SyM n M∧BdM n M) {o k:Nat} {ts:List Int} (hk:k < ts.length) (h0:∀ x ∈ ts,0 ≤ x∧x ≤ 1000000000000) (hn:o + 1 + k < n):∃ M',(Rds n M'∧SyM n M'∧BdM n M')∧bdI1 (tR a b c d e M (.val (.int (o:Int))) (.own (ts.map D.int)) (.val (.int (k:Int))) s9 s10 s11)=some (.nx (tR a b c d e M' (.val (.int (o:Int))) (.own (ts.map D.int)) (.val (.int (k:Int))) s9 s10 s11)):=by
  obtain ⟨v0,v1⟩:0 ≤ ts.getD k 0∧ts.getD k 0 ≤ 1000000000000:=h0 _ (by rw [List.getD_eq_getElem?_getD,List.getElem?_eq_getElem hk]; exact List.getElem_mem hk)
  have R1:=rds_set (v:=ts.getD k 0) R (i:=o) (j:=o + 1 + k) (by omega) hn (by omega) v0
  have R2:=rds_set (v:=ts.getD k 0) R1 (i:=o + 1 + k) (j:=o) hn (by omega) (by omega) v0
  have pk:∀ M',pK (tR a b c d e M' (.val (.int (o:Int))) (.own (ts.map D.int)) (.val (.int (k:Int))) s9 s10 s11)=some (.cl (.int (((o + 1 + k:Nat)):Int))):=fun M'=>by
    have:=add_of (add_of (fa:=dVar 6) (fb:=dC (.int 1)) (t:=tR a b c d e M' (.val (.int (o:Int))) (.own (ts.map D.int)) (.val (.int (k:Int))) s9 s10 s11) (a:=(o:Int)) (b:=1) rfl rfl) (rfl:dVar 8 _=some (.cl (.int (k:Int))))
    rw [show ((o + 1 + k:Nat):Int)=(o:Int) + 1 + (k:Int) by omega]
    exact this
  have tv:∀ M',(d2 kIx (dVar 7) (dVar 8)) (tR a b c d e M' (.val (.int (o:Int))) (.own (ts.map D.int)) (.val (.int (k:Int))) s9 s10 s11)=some (.cl (.int (ts.getD k 0))):=fun M'=>ixe_of (fa:=dVar 7) (fb:=dVar 8) (r1 := .tm (.lst (ts.map D.int))) (r2 := .cl (.int (k:Int))) ts k rfl rfl hk rfl rfl
  have E1:=setp_of (s:=5) (fi:=dVar 6) (ri := .cl (.int (o:Int))) R.sq (tv M) rfl rfl rfl (pk M) rfl rfl (i:=o) (j:=o + 1 + k) (by omega) hn
  have E2:=setp_of (s:=5) (fk:=dVar 6) (rk := .cl (.int (o:Int))) R1.sq (tv _) rfl (pk _) rfl rfl rfl rfl (i:=o + 1 + k) (j:=o) hn (by omega)
  exact ⟨_,⟨R2,sy_set2 R.sq Y.1 (by omega) hn,bd_set R1.sq (bd_set R.sq Y.2 (by omega) hn v1) hn (by omega) v1⟩,(seq_nx E1).trans E2⟩
def mR:DE:=(d2 (kI tt2 fun i j => .int (i - j)) (d2 (kI tt2 fun i j => .int (i - j)) (dVar 2) (dC (.int 1))) (dVar 6))
def bdO1:DS:=(dSeq (dAsg 7 (dT1 (kCall G_law_row) (dCons (dT1 (kCall G_law_cell) (dCons (dVar 0) (dCons (d2 (kOr (kI tt2 fun i j => .int (i + j)) kCat) (d2 (kOr (kI tt2 fun i j => .int (i + j)) kCat) (dVar 1) (dC (.int 1))) (dVar 6)) dNil))) (dCons mR (dCons (dT1 kLst (dCons (dVar 4) dNil)) (dCons (dVar 3) dNil))))))
    (dRng1 (gkName 8) mR bdI1))
theorem turn_O1 (ns:List Int) (hl:ns.length ≤ 63) (st:Nat) (hs:st ≤ 1000) {n:Nat} (n1:n ≤ 1000) {q:Int} (q0:0 < q) (q1:q ≤ 1000000000001) (pl:Bool) (s9 s10 s11:Sl) {M:List (List Int)} (R:Rds n M∧SyM n M∧BdM n M) {o:Nat} (ho:o < n) (s7 s8:Sl):∃ M' u7 u8,(Rds n M'∧SyM n M'∧BdM n M')∧bdO1 (tR (.val (.lst (ns.map D.int))) (.val (.int (st:Int))) (.val (.int (n:Int))) (.val (.bl pl)) (.val (.int q)) M (.val (.int (o:Int))) s7 s8 s9 s10 s11)=some (.nx (tR (.val (.lst (ns.map D.int))) (.val (.int (st:Int))) (.val (.int (n:Int))) (.val (.bl pl)) (.val (.int q)) M' (.val (.int (o:Int))) u7 u8 s9 s10 s11)):=by
  let t:Th:=tR (.val (.lst (ns.map D.int))) (.val (.int (st:Int))) (.val (.int (n:Int))) (.val (.bl pl)) (.val (.int q)) M (.val (.int (o:Int))) s7 s8 s9 s10 s11
  obtain ⟨c,ec⟩:=cell_ok ns hl (st + 1 + o) (by omega)
  obtain ⟨ts,tl,t0,er⟩:=row_is c q0 (by omega) pl (n - 1 - o) (by omega)
  have em:∀ s7',mR (tR (.val (.lst (ns.map D.int))) (.val (.int (st:Int))) (.val (.int (n:Int))) (.val (.bl pl)) (.val (.int q)) M (.val (.int (o:Int))) s7' s8 s9 s10 s11)=some (.cl (.int ((n - 1 - o:Nat):Int))):=fun s7'=>by
    have:=sub_of (sub_of (fa:=dVar 2) (fb:=dC (.int 1)) (t:=tR (.val (.lst (ns.map D.int))) (.val (.int (st:Int))) (.val (.int (n:Int))) (.val (.bl pl)) (.val (.int q)) M (.val (.int (o:Int))) s7' s8 s9 s10 s11) (a:=(n:Int)) (b:=1) rfl rfl) (rfl:dVar 6 _=some (.cl (.int (o:Int))))
    rw [show ((n - 1 - o:Nat):Int)=(n:Int) - 1 - (o:Int) by omega]
    exact this
  have e1:(dT1 (kCall G_law_cell) (dCons (dVar 0) (dCons (d2 (kOr (kI tt2 fun i j => .int (i + j)) kCat) (d2 (kOr (kI tt2 fun i j => .int (i + j)) kCat) (dVar 1) (dC (.int 1))) (dVar 6)) dNil))) t=some (.cl (.int c)):=by
    have a:=add_of (add_of (fa:=dVar 1) (fb:=dC (.int 1)) (t:=t) (a:=(st:Int)) (b:=1) rfl rfl) (rfl:dVar 6 t=some (.cl (.int (o:Int))))
    rw [show (st:Int) + 1 + (o:Int)=((st + 1 + o:Nat):Int) by omega] at a
    exact (t2_of (rfl:dVar 0 t=some (.cl (.lst (ns.map D.int)))) a).trans (callc ec rfl)
  have e2:(dT1 (kCall G_law_row) (dCons (dT1 (kCall G_law_cell) (dCons (dVar 0) (dCons (d2 (kOr (kI tt2 fun i j => .int (i + j)) kCat) (d2 (kOr (kI tt2 fun i j => .int (i + j)) kCat) (dVar 1) (dC (.int 1))) (dVar 6)) dNil))) (dCons mR (dCons (dT1 kLst (dCons (dVar 4) dNil)) (dCons (dVar 3) dNil))))) t=some (.nw (ts.map D.int)) :=
    (t4_of e1 (em s7) (rfl:(dT1 kLst (dCons (dVar 4) dNil)) t=some (.nw [.int q])) (rfl:dVar 3 t=some (.cl (.bl pl)))).trans (calln er)
  have E1:=asg_nw (i:=7) e2 (by simp [t])
  obtain ⟨t',e3,M',u8,R',rfl⟩:=for_P (k:=gkName 8) (b:=bdI1) (P:=fun t => ∃ M' u8,(Rds n M'∧SyM n M'∧BdM n M')∧t=tR (.val (.lst (ns.map D.int))) (.val (.int (st:Int))) (.val (.int (n:Int))) (.val (.bl pl)) (.val (.int q)) M' (.val (.int (o:Int))) (.own (ts.map D.int)) u8 s9 s10 s11) ((natsI (n - 1 - o)).map D.int) (fun d hd t ⟨M1,u8,R1,et⟩=>by
    obtain ⟨x,hx,rfl⟩:=List.mem_map.mp hd
    have xr:=nats_mem hx
    obtain ⟨k,rfl⟩:∃ k:Nat,x=(k:Int):=⟨x.toNat,by omega⟩
    subst et
    obtain ⟨M2,R2,e⟩:=turn_I1 (.val (.lst (ns.map D.int))) (.val (.int (st:Int))) (.val (.int (n:Int))) (.val (.bl pl)) (.val (.int q)) s9 s10 s11 R1.1 R1.2 (o:=o) (k:=k) (ts:=ts) (by omega) (fun x hx=>⟨(t0 x hx).1,by have:=(t0 x hx).2; omega⟩) (by omega)
    exact ⟨_,_,rfl,e,M2,_,R2,rfl⟩) (tR (.val (.lst (ns.map D.int))) (.val (.int (st:Int))) (.val (.int (n:Int))) (.val (.bl pl)) (.val (.int q)) M (.val (.int (o:Int))) (.own (ts.map D.int)) s8 s9 s10 s11) ⟨M,s8,R,rfl⟩
  refine ⟨M', .own (ts.map D.int),u8,R',(seq_nx E1).trans ?_⟩
  exact (rng1_of (n:=n - 1 - o) (em _) rfl (by omega)).trans e3
def bdT1:DS:=(dSeq (dAsg 11 (d2 (kOr (kI tt2 fun i j => .int (i + j)) kCat) (d2 kIx (d2 kIx (dVar 5) (dVar 6)) (dVar 9)) (d2 kIx (d2 kIx (dVar 5) (dVar 9)) (dVar 10))))
    (dIfS (dBo (d2 (kI tt2 fun i j => .bl (decide (i < j))) (dVar 11) (d2 kIx (d2 kIx (dVar 5) (dVar 6)) (dVar 10)))) (dSetP 5 [(dVar 6)] (dVar 10) (dVar 11)) dSkip))
theorem turn_T1 (a b c d e s7 s8:Sl) {n:Nat} {M:List (List Int)} (R:Rds n M) {o p th:Nat} (ho:o < n) (hp:p < n) (ht:th < n) (s11:Sl):∃ M' u11,(Rds n M'∧∀ i j:Nat,eM M' i j=if i=o∧j=p then nxM M th o p else eM M i j)∧bdT1 (tR a b c d e M (.val (.int (o:Int))) s7 s8 (.val (.int (th:Int))) (.val (.int (p:Int))) s11)=some (.nx (tR a b c d e M' (.val (.int (o:Int))) s7 s8 (.val (.int (th:Int))) (.val (.int (p:Int))) u11)):=by
  let t:Th:=tR a b c d e M (.val (.int (o:Int))) s7 s8 (.val (.int (th:Int))) (.val (.int (p:Int))) s11
  have g1:=ix2_of (fa:=dVar 5) (fb:=dVar 6) (fc:=dVar 9) (t:=t) (r1 := .tm (mD M)) (i:=(o:Int)) (j:=(th:Int)) R.sq rfl rfl rfl rfl (by omega) (by omega) (by omega) (by omega)
  have g2:=ix2_of (fa:=dVar 5) (fb:=dVar 9) (fc:=dVar 10) (t:=t) (r1 := .tm (mD M)) (i:=(th:Int)) (j:=(p:Int)) R.sq rfl rfl rfl rfl (by omega) (by omega) (by omega) (by omega)
  have E1:=asg_cl (i:=11) (add_of g1 g2) (by simp [t])
  let t1:Th:=tR a b c d e M (.val (.int (o:Int))) s7 s8 (.val (.int (th:Int))) (.val (.int (p:Int))) (.val (.int (gM M (o:Int) (th:Int) + gM M (th:Int) (p:Int))))
  have g3:=ix2_of (fa:=dVar 5) (fb:=dVar 6) (fc:=dVar 10) (t:=t1) (r1 := .tm (mD M)) (i:=(o:Int)) (j:=(p:Int)) R.sq rfl rfl rfl rfl (by omega) (by omega) (by omega) (by omega)
  have cc:=lt_of (rfl:dVar 11 t1=some (.cl (.int (gM M (o:Int) (th:Int) + gM M (th:Int) (p:Int))))) g3
  have w1:0 ≤ gM M (o:Int) (th:Int):=R.nn o th ho ht
  have w2:0 ≤ gM M (th:Int) (p:Int):=R.nn th p ht hp
  by_cases z:gM M (o:Int) (th:Int) + gM M (th:Int) (p:Int) < gM M (o:Int) (p:Int)
  · have ne:o ≠ p:=fun q=>by
      subst q
      have:gM M (o:Int) (o:Int)=0:=R.dg o ho
      omega
    have R1:=rds_set (v:=gM M (o:Int) (th:Int) + gM M (th:Int) (p:Int)) R (i:=o) (j:=p) ho hp ne (by omega)
    have E2:=setp_of (s:=5) (t:=t1) (fi:=dVar 6) (fk:=dVar 10) (fv:=dVar 11) (v:=gM M (o:Int) (th:Int) + gM M (th:Int) (p:Int)) (ri := .cl (.int (o:Int))) (rk := .cl (.int (p:Int))) (rv := .cl (.int (gM M (o:Int) (th:Int) + gM M (th:Int) (p:Int)))) R.sq rfl rfl rfl rfl rfl rfl rfl (i:=o) (j:=p) ho hp
    refine ⟨_,_,⟨R1,fun i j=>?_⟩,(seq_nx E1).trans ((ifs_t cc (decide_eq_true z)).trans E2)⟩
    have nv:nxM M th o p=gM M (o:Int) (th:Int) + gM M (th:Int) (p:Int):=if_pos z
    rw [nv]
    exact setM_get R.sq _ ho hp i j
  · refine ⟨M,_,⟨R,fun i j=>?_⟩,(seq_nx E1).trans (grd cc (decide_eq_false z))⟩
    have nv:nxM M th o p=eM M o p:=if_neg z
    rw [nv]
    split
    · rename_i w; rw [w.1,w.2]
    · rfl
theorem rng_P {n:Nat} (hn:n ≤ 1000) {i:Nat} {b:DS} {P:Th→Prop} {f:DE} (hP:∀ t,P t→f t=some (.cl (.int (n:Int)))) (hb:∀ (x:Nat),x < n→∀ t,P t→∃ t1 t2,gkName i (.int (x:Int)) t=some t1∧b t1=some (.nx t2)∧P t2):∀ t,P t→∃ t',dRng1 (gkName i) f b t=some (.nx t')∧P t':=fun t h=>by
  obtain ⟨t',e,h'⟩:=for_P (k:=gkName i) (b:=b) (P:=P) ((natsI n).map D.int) (fun d hd t1 h1=>by
    obtain ⟨x,hx,rfl⟩:=List.mem_map.mp hd
    have xr:=nats_mem hx
    obtain ⟨k,rfl⟩:∃ k:Nat,x=(k:Int):=⟨x.toNat,by omega⟩
    exact hb k (by omega) t1 h1) t h
  exact ⟨t',(rng1_of (n:=n) (hP t h) rfl (by omega)).trans e,h'⟩
def mxR:DE:=(dT1 kLst (dCons (dC (.int 4)) (dCons (dC (.int 30)) (dCons (dC (.int 1000)) (dCons (d2 (kOr (kI tt2 fun i j => .int (i + j)) kCat) (d2 (kI cPow fun i j => .int (i ^ j.toNat)) (dC (.int 10)) (dC (.int 12))) (dC (.int 1))) dNil)))))
theorem mxR_of (t:Th):mxR t=some (.nw ([4,30,1000,1000000000001].map D.int)):=by
  unfold mxR
  exact (t4_of (rfl:dC (.int 4) t=some (.cl (.int 4))) (rfl:dC (.int 30) t=some (.cl (.int 30))) (rfl:dC (.int 1000) t=some (.cl (.int 1000))) (add_of (pow12 t) (rfl:dC (.int 1) t=some (.cl (.int 1))))).trans rfl
theorem compN_rep {n:Nat} {ext:Th} {fe:DE} {d:D} (he:∀ x:Int, ∃ r,fe (.val (.int x) :: ext)=some r∧toDn r=some d):∀ (l:List Int) (s:Sl),compN (gkName 0) dTrue fe (l.map D.int) (s :: ext)=some (List.replicate l.length d)
  | [],s=>rfl
  | x :: l,s=>by
    obtain ⟨r,e,er⟩:=he x
    have e0:gkName 0 (.int x) (s :: ext)=some (.val (.int x) :: ext):=rfl
    have ih:=compN_rep (n:=n) he l (.val (.int x))
    simp only [List.map_cons,compN,e0,Option.bind_some,dTrue,if_true,e,er,ih,Option.map_some,List.length_cons,List.replicate_succ]
theorem roads_of (ns:List Int) (hl:ns.length ≤ 63) (st:Nat) (hs:st ≤ 1000) {n:Nat} (n0:0 < n) (n1:n ≤ 900):∃ M,(Rds n M∧SyM n M∧TrM n n M∧BdM n M)∧G_law_roads [.lst (ns.map D.int), .int (st:Int), .int (n:Int)]=some (.dn (mD M)):=by
  let N:Sl := .val (.lst (ns.map D.int))
  let A:Sl := .val (.int (st:Int))
  let B:Sl := .val (.int (n:Int))
  obtain ⟨c,ec⟩:=cell_ok ns hl st (by omega)
  have c1:∀ r,(dT1 (kCall G_law_cell) (dCons (dVar 0) (dCons (dVar 1) dNil))) (N :: A :: r)=some (.cl (.int c)):=fun r=>(t2_of (rfl:dVar 0 (N :: A :: r)=some (.cl (.lst (ns.map D.int)))) (rfl:dVar 1 (N :: A :: r)=some (.cl (.int (st:Int))))).trans (callc ec rfl)
  have E1:dAsg 3 (d2 kEq (d2 (kI cMod fun i j => .int (i.fmod j)) (dT1 (kCall G_law_cell) (dCons (dVar 0) (dCons (dVar 1) dNil))) (dC (.int 2))) (dC (.int 1))) [N,A,B, .no, .no, .no, .no, .no, .no, .no, .no, .no]=some (.nx [N,A,B, .val (.bl (decide (c.fmod 2=1))), .no, .no, .no, .no, .no, .no, .no, .no]) :=
    asg_cl (i:=3) (eqv_of (mod_of (c1 _) (fb:=dC (.int 2)) (b:=2) rfl (by decide)) (fb:=dC (.int 1)) (b:=1) rfl) (by simp)
  generalize decide (c.fmod 2=1)=pl at E1
  obtain ⟨k4,hk4,ek⟩:∃ k:Nat,k < 4∧(c.fdiv 2).fmod 4=(k:Int):=by
    have:=fm (a:=c.fdiv 2) (b:=4) (by decide)
    exact ⟨((c.fdiv 2).fmod 4).toNat,by omega,by omega⟩
  obtain ⟨q,q0,q1,e2⟩:∃ q:Int,0 < q∧q ≤ 1000000000001∧(d2 kIx mxR (d2 (kI cMod fun i j => .int (i.fmod j)) (d2 (kI cDiv fun i j => .int (i.fdiv j)) (dT1 (kCall G_law_cell) (dCons (dVar 0) (dCons (dVar 1) dNil))) (dC (.int 2))) (dC (.int 4)))) [N,A,B, .val (.bl pl), .no, .no, .no, .no, .no, .no, .no, .no]=some (.cl (.int q)):=by
    refine ⟨[4,30,1000,1000000000001].getD k4 0,?_,?_,?_⟩
    · rcases (by omega:k4=0 ∨ k4=1 ∨ k4=2 ∨ k4=3) with rfl | rfl | rfl | rfl <;> simp
    · rcases (by omega:k4=0 ∨ k4=1 ∨ k4=2 ∨ k4=3) with rfl | rfl | rfl | rfl <;> simp
    · refine (d2_of (mxR_of _) (mod_of (div_of (c1 _) (fb:=dC (.int 2)) (b:=2) rfl (by decide) (sm_of (by decide) (by decide))) (fb:=dC (.int 4)) (b:=4) rfl (by decide))).trans ?_
      rw [ek]
      exact ixEv _ k4 (by simpa using hk4) rfl rfl
  have E2:=asg_cl (i:=4) e2 (by simp)
  let P3:Sl := .val (.bl pl)
  let Q4:Sl := .val (.int q)
  have E3:dAsg 5 (dCompN 1 [2] (fsR1 (dVar 2)) (gkName 0) dTrue (d2 (kOr (kI cMul fun i j => .int (i * j)) kRep) (dT1 kLst (dCons (dC (.int 0)) dNil)) (dVar 1))) [N,A,B,P3,Q4, .no, .no, .no, .no, .no, .no, .no]=some (.nx (tR N A B P3 Q4 (List.replicate n (List.replicate n 0)) .no .no .no .no .no .no)):=by
    have w1:=rng_is (f:=dVar 2) (t:=[N,A,B,P3,Q4, .no, .no, .no, .no, .no, .no, .no]) (n:=n) rfl (by omega)
    have w2:=compN_rep (n:=n) (ext:=[.val (.int (n:Int))]) (fe:=(d2 (kOr (kI cMul fun i j => .int (i * j)) kRep) (dT1 kLst (dCons (dC (.int 0)) dNil)) (dVar 1))) (d:=rwD (List.replicate n 0)) (fun x=>⟨_,repn_of (x:=0) (m:=n) rfl rfl n1,by simp only [toDn,flats_ints,if_true]; rfl⟩) (natsI n) .no
    rw [natsI_len] at w2
    unfold dAsg dCompN
    rw [w1]
    show Option.bind (if ((natsI n).map D.int).length ≤ 50000 then (compN (gkName 0) dTrue _ ((natsI n).map D.int) [Sl.no, .val (.int (n:Int))]).map (fun xs=>Ev.dn (.lst xs)) else none) _=_
    rw [if_pos (by rw [List.length_map,natsI_len]; omega),w2]
    show some (Out.nx [N,A,B,P3,Q4, .dp (.lst (List.replicate n (rwD (List.replicate n 0)))), .no, .no, .no, .no, .no, .no])=_
    have:List.replicate n (rwD (List.replicate n 0))=(List.replicate n (List.replicate n (0:Int))).map rwD:=by rw [List.map_replicate]
    rw [this]
    rfl
  obtain ⟨t4,E4,M4,u6,u7,u8,R4,rfl⟩:=rng_P (n:=n) (by omega) (i:=6) (b:=bdO1) (f:=dVar 2) (P:=fun t => ∃ M u6 u7 u8,(Rds n M∧SyM n M∧BdM n M)∧t=tR N A B P3 Q4 M u6 u7 u8 .no .no .no) (fun t ⟨M,u6,u7,u8,_,e⟩=>by subst e; rfl) (fun x hx t ⟨M,u6,u7,u8,R,e⟩=>by
    subst e
    obtain ⟨M',v7,v8,R',e⟩:=turn_O1 ns hl st hs (by omega) q0 q1 pl .no .no .no R hx u7 u8
    exact ⟨_,_,rfl,e,M',_,v7,v8,R',rfl⟩) (tR N A B P3 Q4 (List.replicate n (List.replicate n 0)) .no .no .no .no .no .no) ⟨_, .no, .no, .no,⟨rds_zero n,sy_zero n,bd_zero n⟩,rfl⟩
  obtain ⟨t5,E5,M5,v6,v9,v10,v11,R5,rfl⟩:=rng_K (n:=n) (by omega) (i:=9) (b:=(dRng1 (gkName 6) (dVar 2) (dRng1 (gkName 10) (dVar 2) bdT1))) (f:=dVar 2) (P:=fun th t => ∃ M v6 v9 v10 v11,(Rds n M∧SyM n M∧TrM n th M∧BdM n M)∧t=tR N A B P3 Q4 M v6 u7 u8 v9 v10 v11) (fun th hth t ⟨M,v6,v9,v10,v11,R0,e⟩=>by
    subst e
    obtain ⟨t',e',M',w6,w10,w11,R',rfl⟩:=rng_K (n:=n) (by omega) (i:=6) (b:=(dRng1 (gkName 10) (dVar 2) bdT1)) (f:=dVar 2) (P:=fun o t => ∃ M1 w6 w10 w11,(Rds n M1∧∀ i j:Nat,i < n→j < n→eM M1 i j=if i < o then nxM M th i j else eM M i j)∧t=tR N A B P3 Q4 M1 w6 u7 u8 (.val (.int (th:Int))) w10 w11) (fun o ho t ⟨M1,w6,w10,w11,R1,e⟩=>by
      subst e
      obtain ⟨t',e',M',x10,x11,R',rfl⟩:=rng_K (n:=n) (by omega) (i:=10) (b:=bdT1) (f:=dVar 2) (P:=fun p t => ∃ M2 x10 x11,(Rds n M2∧∀ i j:Nat,i < n→j < n→eM M2 i j=if i < o ∨ (i=o∧j < p) then nxM M th i j else eM M i j)∧t=tR N A B P3 Q4 M2 (.val (.int (o:Int))) u7 u8 (.val (.int (th:Int))) x10 x11) (fun p hp t ⟨M2,x10,x11,R2,e⟩=>by
        subst e
        obtain ⟨M',y11,R',e⟩:=turn_T1 N A B P3 Q4 u7 u8 R2.1 ho hp hth x11
        refine ⟨_,_,rfl,e,M',_,y11,⟨R'.1,fun i j hi hj=>?_⟩,rfl⟩
        rw [R'.2 i j]
        by_cases z:i=o∧j=p
        · obtain ⟨rfl,rfl⟩:=z
          rw [if_pos ⟨rfl,rfl⟩,if_pos (Or.inr ⟨rfl,Nat.lt_succ_self _⟩)]
          have k1:eM M2 i th=eM M i th:=by
            rw [R2.2 i th hi hth]
            split
            · exact nx_row R0.1 hth hi
            · rfl
          have k2:eM M2 th j=eM M th j:=by
            rw [R2.2 th j hth hj]
            split
            · exact nx_col R0.1 hth hj
            · rfl
          have k3:eM M2 i j=eM M i j:=by
            rw [R2.2 i j hi hj,if_neg (by omega)]
          unfold nxM
          rw [k1,k2,k3]
        · rw [if_neg z,R2.2 i j hi hj]
          by_cases y:i < o ∨ (i=o∧j < p)
          · rw [if_pos y,if_pos (by omega)]
          · rw [if_neg y,if_neg (by omega)]) (tR N A B P3 Q4 M1 (.val (.int (o:Int))) u7 u8 (.val (.int (th:Int))) w10 w11) rfl ⟨M1,w10,w11,⟨R1.1,fun i j hi hj=>by
            rw [R1.2 i j hi hj]
            by_cases y:i < o
            · rw [if_pos y,if_pos (Or.inl y)]
            · rw [if_neg y,if_neg (by omega)]⟩,rfl⟩
      refine ⟨_,_,rfl,e',M',_,x10,x11,⟨R'.1,fun i j hi hj=>?_⟩,rfl⟩
      rw [R'.2 i j hi hj]
      by_cases y:i < o ∨ (i=o∧j < n)
      · rw [if_pos y,if_pos (by omega)]
      · rw [if_neg y,if_neg (by omega)]) (tR N A B P3 Q4 M v6 u7 u8 (.val (.int (th:Int))) v10 v11) rfl ⟨M,v6,v10,v11,⟨R0.1,fun i j _ _=>by rw [if_neg (by omega)]⟩,rfl⟩
    have ful:∀ i j:Nat,i < n→j < n→eM M' i j=nxM M th i j:=fun i j hi hj=>by rw [R'.2 i j hi hj,if_pos hi]
    exact ⟨_,_,rfl,e',M',w6,_,w10,w11,⟨R'.1,nx_sym R0.2.1 hth ful,nx_tri R0.1 R0.2.2.1 hth ful,fun i j hi hj=>by rw [ful i j hi hj]; exact Int.le_trans (nx_le (M:=M) th i j).1 (R0.2.2.2 i j hi hj)⟩,rfl⟩) (tR N A B P3 Q4 M4 u6 u7 u8 .no .no .no) rfl ⟨M4,u6, .no, .no, .no,⟨R4.1,R4.2.1,fun t i j ht=>absurd ht (Nat.not_lt_zero t),R4.2.2⟩,rfl⟩
  refine ⟨M5,R5,?_⟩
  show (g_law_roads [N,A,B, .no, .no, .no, .no, .no, .no, .no, .no, .no]).bind outEv=_
  show (dSeq _ (dSeq (dAsg 4 (d2 kIx mxR _)) (dSeq _ (dSeq (dRng1 (gkName 6) (dVar 2) bdO1) (dSeq (dRng1 (gkName 9) (dVar 2) (dRng1 (gkName 6) (dVar 2) (dRng1 (gkName 10) (dVar 2) bdT1))) _)))) _).bind outEv=_
  refine bnd ?_
  refine (seq_nx E1).trans ?_
  refine (seq_nx E2).trans ?_
  refine (seq_nx E3).trans ?_
  refine (seq_nx E4).trans ?_
  refine (seq_nx E5).trans ?_
  rfl
theorem flats_bls:∀ bs:List Bool,flats (bs.map D.bl)=true
  | []=>rfl
  | b :: bs=>by simp [flats,flat,flats_bls bs]
theorem blsD_map:∀ bs:List Bool,blsD (bs.map D.bl)=some bs
  | []=>rfl
  | b :: bs=>by simp [blsD,blsD_map bs]
theorem all_of {f:DE} {t:Th} {r:Ev} {bs:List Bool} (h:f t=some r) (hr:r.d = .lst (bs.map D.bl)):(dT1 (kBls fun bs=>bs.all id) (dCons f dNil)) t=some (.cl (.bl (bs.all id))):=by
  rw [t1_of h]
  unfold kBls
  simp only [hr,blsD_map,Option.map_some]
theorem all_map {α:Type} (f:α→Bool):∀ l:List α,(l.map f).all id=l.all f
  | []=>rfl
  | x :: l=>by simp only [List.map_cons,List.all_cons,all_map f l,id]
theorem chl_of {fa fb fc:DE} {t:Th} {a b c:Int} (h1:fa t=some (.cl (.int a))) (h2:fb t=some (.cl (.int b))) (h3:fc t=some (.cl (.int c))):dChV (kI tt2 fun i j => .bl (decide (i ≤ j))) (kI tt2 fun i j => .bl (decide (i ≤ j))) fa fb fc t=some (.cl (.bl (decide (a ≤ b) && decide (b ≤ c)))):=by
  unfold dChV
  have:dCh (kI tt2 fun i j => .bl (decide (i ≤ j))) (kI tt2 fun i j => .bl (decide (i ≤ j))) fa fb fc t=some (decide (a ≤ b) && decide (b ≤ c)):=by
    unfold dCh
    rw [h1,h2,h3]
    show (match D.bl (decide (a ≤ b)) with
      | .bl true=>some (decide (b ≤ c))
      | .bl false=>some false
      | _=>none)=_
    cases decide (a ≤ b) <;> rfl
  rw [this]
  rfl
theorem andv_of {f g:DE} {t:Th} {a b:Bool} (h1:f t=some (.cl (.bl a))) (h2:a=true→g t=some (.cl (.bl b))):dAndV f g t=some (.cl (.bl (a && b))):=by
  unfold dAndV
  rw [h1]
  cases a with
  | true=>exact h2 rfl
  | false=>rfl
theorem comp_rowB {fe:DE} {f:List Int→Bool} {ext:Th}:∀ (M:List (List Int)) (s:Sl),(∀ r ∈ M,fe (.val (rwD r) :: ext)=some (.cl (.bl (f r))))→compD (gkName 0) dTrue fe (M.map rwD) (s :: ext)=some ((M.map f).map D.bl)
  | [],s,_=>rfl
  | r :: M,s,he=>by
    have e0:gkName 0 (rwD r) (s :: ext)=some (.val (rwD r) :: ext):=rfl
    simp only [List.map_cons,compD,e0,Option.bind_some,dTrue,he r (List.mem_cons_self ..),if_true]
    rw [comp_rowB M _ fun x hx=>he x (List.mem_cons_of_mem _ hx)]
    rfl
def sqB (M:List (List Int)):Bool:=M.all fun r=>decide ((r.length:Int)=(M.length:Int))
theorem square_is {M:List (List Int)} (hl:M.length ≤ 50000):G_is_square [mD M]=some (.cl (.bl ((decide (1 ≤ (M.length:Int)) && decide ((M.length:Int) ≤ 40)) && sqB M))):=by
  show (g_is_square [.val (mD M), .no]).bind outEv=_
  have ln:=lenM_of (f:=dVar 0) (t:=[.val (mD M), .no]) (r := .cl (mD M)) rfl rfl
  have E1:=asg_cl (i:=1) ln (by simp)
  let t:Th:=[.val (mD M), .val (.int (M.length:Int))]
  have c1:=chl_of (fa:=dC (.int 1)) (fb:=dVar 1) (fc:=dC (.int 40)) (t:=t) (a:=1) (b:=(M.length:Int)) (c:=40) rfl rfl rfl
  have c2:(dComp 1 [1] (fsL (dVar 0)) (gkName 0) dTrue (d2 kEq (dT1 kLen (dCons (dVar 0) dNil)) (dVar 1))) t=some (.nw ((M.map fun r=>decide ((r.length:Int)=(M.length:Int))).map D.bl)):=by
    have e2:=comp_rowB (fe:=(d2 kEq (dT1 kLen (dCons (dVar 0) dNil)) (dVar 1))) (f:=fun r=>decide ((r.length:Int)=(M.length:Int))) (ext:=[.val (.int (M.length:Int))]) M .no (fun r _=>eqv_of (len_of (f:=dVar 0) (t:=[.val (rwD r), .val (.int (M.length:Int))]) (r := .cl (rwD r)) (xs:=r) rfl rfl) rfl)
    unfold dComp
    show (if (M.map rwD).length ≤ 50000 then (compD (gkName 0) dTrue _ (M.map rwD) [Sl.no, .val (.int (M.length:Int))]).bind _ else none)=_
    rw [if_pos (by simpa using hl),e2]
    simp only [Option.bind_some,flats_bls,Bool.or_true,if_true]
  have c3:=all_of c2 rfl
  rw [all_map] at c3
  refine bnd ((seq_nx E1).trans (ret_of ?_))
  exact andv_of c1 fun _=>c3
def lenB (M:List (List Int)):Bool:=M.all fun r=>r.all fun x=>decide (0 ≤ x) && decide (x ≤ 1000000000000)
def feL:DE:=(dChV (kI tt2 fun i j => .bl (decide (i ≤ j))) (kI tt2 fun i j => .bl (decide (i ≤ j))) (dC (.int 0)) (dVar 1) (dC (.int 1000000000000)))
theorem in_L (r:List Int):∀ (l:List Int) (s1:Sl), ∃ s1',compDT (gkName 1) dTrue feL (l.map D.int) [.val (rwD r),s1]=some ((l.map fun x=>decide (0 ≤ x) && decide (x ≤ 1000000000000)).map D.bl,[.val (rwD r),s1'])
  | [],s1=>⟨s1,rfl⟩
  | x :: l,s1=>by
    obtain ⟨s1',ih⟩:=in_L r l (.val (.int x))
    refine ⟨s1',?_⟩
    have e0:gkName 1 (.int x) [.val (rwD r),s1]=some [.val (rwD r), .val (.int x)]:=rfl
    have e2:feL [.val (rwD r), .val (.int x)]=_:=chl_of (fa:=dC (.int 0)) (fb:=dVar 1) (fc:=dC (.int 1000000000000)) (t:=[.val (rwD r), .val (.int x)]) (a:=0) (b:=x) (c:=1000000000000) rfl rfl rfl
    simp only [List.map_cons,compDT,e0,Option.bind_some,dTrue,if_true,e2,ih,Option.map_some]
    rfl
theorem out_L:∀ (M:List (List Int)) (s0 s1:Sl),compD2 (gkName 0) dTrue (fsL (dVar 0)) (gkName 1) dTrue feL (M.map rwD) [s0,s1]=some ((M.flatMap fun r=>r.map fun x=>decide (0 ≤ x) && decide (x ≤ 1000000000000)).map D.bl)
  | [],s0,s1=>rfl
  | r :: M,s0,s1=>by
    obtain ⟨s1',e2⟩:=in_L r r s1
    have ih:=out_L M (.val (rwD r)) s1'
    have e0:gkName 0 (rwD r) [s0,s1]=some [.val (rwD r),s1]:=rfl
    have e1:fsL (dVar 0) [.val (rwD r),s1]=some (true,r.map D.int):=rfl
    simp only [List.map_cons,compD2,e0,Option.bind_some,dTrue,if_true,e1,e2,ih,Option.map_some,List.flatMap_cons,List.map_append]
theorem flatL_all (f:Int→Bool):∀ M:List (List Int),(M.flatMap fun r=>r.map f).all id=M.all fun r=>r.all f
  | []=>rfl
  | r :: M=>by simp only [List.flatMap_cons,List.all_append,List.all_cons,flatL_all f M,all_map]
theorem flatL_len (f:Int→Bool) {w:Nat}:∀ M:List (List Int),(∀ r ∈ M,r.length ≤ w)→(M.flatMap fun r=>r.map f).length ≤ M.length * w
  | [],_=>by simp
  | r :: M,h=>by
    have a:=flatL_len f M fun x hx=>h x (List.mem_cons_of_mem _ hx)
    have b:=h r (List.mem_cons_self ..)
    simp only [List.flatMap_cons,List.length_append,List.length_map,List.length_cons,Nat.add_mul,Nat.one_mul]
    omega
def feD:DE:=(d2 kEq (d2 kIx (dVar 1) (dVar 0)) (dC (.int 0)))
def dgL (k:Nat):List (List Int)→List Bool
  | []=>[]
  | r :: M=>decide (r.getD k 0=0) :: dgL (k + 1) M
theorem comp_dg:∀ (M:List (List Int)) (k:Nat) (s0 s1:Sl),(∀ r ∈ M,k + M.length ≤ r.length)→compD (gkTup 2 (gkCons (gkName 0) (gkCons (gkName 1) gkNil))) dTrue feD (enumD k (M.map rwD)) [s0,s1]=some ((dgL k M).map D.bl)
  | [],k,s0,s1,_=>rfl
  | r :: M,k,s0,s1,h=>by
    have hr:=h r (List.mem_cons_self ..)
    simp only [List.length_cons] at hr
    have e0:gkTup 2 (gkCons (gkName 0) (gkCons (gkName 1) gkNil)) (.tup [.int (k:Int),rwD r]) [s0,s1]=some [.val (.int (k:Int)), .val (rwD r)]:=rfl
    have e2:feD [.val (.int (k:Int)), .val (rwD r)]=some (.cl (.bl (decide (r.getD k 0=0)))):=eqv_of (ixe_of (fa:=dVar 1) (fb:=dVar 0) (t:=[.val (.int (k:Int)), .val (rwD r)]) (r1 := .cl (rwD r)) (r2 := .cl (.int (k:Int))) r k rfl rfl (by omega) rfl rfl) rfl
    have ih:=comp_dg M (k + 1) (.val (.int (k:Int))) (.val (rwD r)) (fun x hx=>by
      have:=h x (List.mem_cons_of_mem _ hx)
      simp only [List.length_cons] at this
      omega)
    show compD _ dTrue feD (.tup [.int (k:Int),rwD r] :: enumD (k + 1) (M.map rwD)) [s0,s1]=_
    simp only [compD,e0,Option.bind_some,dTrue,if_true,e2,ih,Option.map_some]
    rfl
theorem lengths_is {n:Nat} {M:List (List Int)} (S:Sq n M) (hn:n ≤ 60):G_are_lengths [mD M]=some (.cl (.bl (lenB M && (dgL 0 M).all id))):=by
  show (g_are_lengths [.val (mD M)]).bind outEv=_
  let t:Th:=[.val (mD M)]
  have c2:(dComp2 2 [] (fsL (dVar 0)) (gkName 0) dTrue (fsL (dVar 0)) (gkName 1) dTrue feL) t=some (.nw ((M.flatMap fun r=>r.map fun x=>decide (0 ≤ x) && decide (x ≤ 1000000000000)).map D.bl)):=by
    have e2:=out_L M .no .no
    unfold dComp2
    show (compD2 (gkName 0) dTrue (fsL (dVar 0)) (gkName 1) dTrue feL (M.map rwD) [.no, .no]).bind _=_
    rw [e2]
    have ll:=flatL_len (w:=n) (fun x=>decide (0 ≤ x) && decide (x ≤ 1000000000000)) M (fun r hr=>by rw [S.row r hr]; exact Nat.le_refl _)
    rw [S.len] at ll
    have:n * n ≤ 60 * 60:=Nat.mul_le_mul hn hn
    simp only [Option.bind_some,flats_bls,Bool.and_true,List.length_map]
    rw [if_pos (decide_eq_true (by omega))]
  have c3:=all_of c2 rfl
  rw [flatL_all] at c3
  have tr:dNot (dTr (dT1 (kBls fun bs=>bs.all id) (dCons (dComp2 2 [] (fsL (dVar 0)) (gkName 0) dTrue (fsL (dVar 0)) (gkName 1) dTrue feL) dNil))) t=some (!lenB M):=by
    unfold dNot dTr
    rw [c3]
    rfl
  cases z:lenB M with
  | false =>
    rw [z] at tr
    refine bnd ?_
    exact seq_rt (grd_t tr rfl)
  | true =>
    rw [z] at tr
    have d2:(dComp 2 [] (fsE (dVar 0)) (gkTup 2 (gkCons (gkName 0) (gkCons (gkName 1) gkNil))) dTrue feD) t=some (.nw ((dgL 0 M).map D.bl)):=by
      have e2:=comp_dg M 0 .no .no (fun r hr=>by rw [S.row r hr,S.len]; omega)
      unfold dComp
      have ee:fsE (dVar 0) t=some (true,enumD 0 (M.map rwD)):=rfl
      have el:(enumD 0 (M.map rwD)).length=M.length:=by
        have:∀ (l:List D) (k:Nat),(enumD k l).length=l.length:=fun l=>by
          induction l with
          | nil=>intro k; rfl
          | cons a l ih=>intro k; simp [enumD,ih]
        rw [this,List.length_map]
      rw [ee]
      show (if (enumD 0 (M.map rwD)).length ≤ 50000 then (compD _ dTrue feD (enumD 0 (M.map rwD)) [Sl.no,Sl.no]).bind _ else none)=_
      rw [if_pos (by rw [el,S.len]; omega),e2]
      simp only [Option.bind_some,flats_bls,Bool.or_true,if_true]
    have d3:=all_of d2 rfl
    refine bnd ?_
    exact (seq_nx (grd tr rfl)).trans (ret_of d3)
def feA:DE:=(d2 kEq (d2 kIx (d2 kIx (dVar 3) (dVar 0)) (dVar 1)) (d2 kIx (d2 kIx (dVar 3) (dVar 1)) (dVar 0)))
theorem in_A {n:Nat} {M:List (List Int)} (S:Sq n M) {a:Int} (X:D) (a0:0 ≤ a) (a1:a < (n:Int)):∀ (l:List Int) (s1:Sl),(∀ x ∈ l,0 ≤ x∧x < (n:Int))→∃ s1',compDT (gkName 1) dTrue feA (l.map D.int) [.val (.int a),s1, .val X, .val (mD M)]=some ((l.map fun b=>decide (gM M a b=gM M b a)).map D.bl,[.val (.int a),s1', .val X, .val (mD M)])
  | [],s1,_=>⟨s1,rfl⟩
  | b :: l,s1,h=>by
    have hb:=h b (List.mem_cons_self ..)
    obtain ⟨s1',ih⟩:=in_A S X a0 a1 l (.val (.int b)) fun x hx=>h x (List.mem_cons_of_mem _ hx)
    refine ⟨s1',?_⟩
    let t:Th:=[.val (.int a), .val (.int b), .val X, .val (mD M)]
    have e0:gkName 1 (.int b) [.val (.int a),s1, .val X, .val (mD M)]=some t:=rfl
    have x:=ix2_of S (fa:=dVar 3) (fb:=dVar 0) (fc:=dVar 1) (t:=t) (r1 := .cl (mD M)) (i:=a) (j:=b) rfl rfl rfl rfl a0 a1 hb.1 hb.2
    have y:=ix2_of S (fa:=dVar 3) (fb:=dVar 1) (fc:=dVar 0) (t:=t) (r1 := .cl (mD M)) (i:=b) (j:=a) rfl rfl rfl rfl hb.1 hb.2 a0 a1
    have e2:feA t=some (.cl (.bl (decide (gM M a b=gM M b a)))):=eqv_of x y
    simp only [List.map_cons,compDT,e0,Option.bind_some,dTrue,if_true,e2]
    rw [show compDT (gkName 1) dTrue feA (l.map D.int) t=_ from ih]
    rfl
theorem out_A {n:Nat} {M:List (List Int)} (S:Sq n M) {A:List Int} (hA:∀ x ∈ A,0 ≤ x∧x < (n:Int)):∀ (l:List Int) (s0 s1:Sl),(∀ x ∈ l,0 ≤ x∧x < (n:Int))→compD2 (gkName 0) dTrue (fsL (dVar 2)) (gkName 1) dTrue feA (l.map D.int) [s0,s1, .val (.lst (A.map D.int)), .val (mD M)]=some ((l.flatMap fun a=>A.map fun b=>decide (gM M a b=gM M b a)).map D.bl)
  | [],s0,s1,_=>rfl
  | a :: l,s0,s1,h=>by
    have ha:=h a (List.mem_cons_self ..)
    obtain ⟨s1',e2⟩:=in_A S (.lst (A.map D.int)) ha.1 ha.2 A s1 hA
    have ih:=out_A S hA l (.val (.int a)) s1' fun x hx=>h x (List.mem_cons_of_mem _ hx)
    have e0:gkName 0 (.int a) [s0,s1, .val (.lst (A.map D.int)), .val (mD M)]=some [.val (.int a),s1, .val (.lst (A.map D.int)), .val (mD M)]:=rfl
    have e1:fsL (dVar 2) [.val (.int a),s1, .val (.lst (A.map D.int)), .val (mD M)]=some (true,A.map D.int):=rfl
    simp only [List.map_cons,compD2,e0,Option.bind_some,dTrue,if_true,e1,e2,ih,Option.map_some,List.flatMap_cons,List.map_append]
theorem flatA_len (A:List Int) (f:Int→Int→Bool):∀ l:List Int,(l.flatMap fun a=>A.map (f a)).length=l.length * A.length
  | []=>by simp
  | a :: l=>by
    simp only [List.flatMap_cons,List.length_append,List.length_map,List.length_cons,Nat.add_mul,Nat.one_mul,flatA_len A f l]
    omega
theorem flatA_all (A:List Int) (f:Int→Int→Bool):∀ l:List Int,(l.flatMap fun a=>A.map (f a)).all id=l.all fun a=>A.all fun b=>f a b
  | []=>rfl
  | a :: l=>by simp only [List.flatMap_cons,List.all_append,List.all_cons,flatA_all A f l,all_map]
def syB (n:Nat) (M:List (List Int)):Bool:=(natsI n).all fun a=>(natsI n).all fun b=>decide (gM M a b=gM M b a)
theorem alike_is {n:Nat} {M:List (List Int)} (S:Sq n M) (hn:n ≤ 60):G_are_alike_both_ways [mD M]=some (.cl (.bl (syB n M))):=by
  show (g_are_alike_both_ways [.val (mD M), .no]).bind outEv=_
  have ln:=lenM_of (f:=dVar 0) (t:=[.val (mD M), .no]) (r := .cl (mD M)) rfl rfl
  rw [S.len] at ln
  have E1:=asg_nw (i:=1) (lr_of ln (by omega)) (by simp)
  let t:Th:=[.val (mD M), .own ((natsI n).map D.int)]
  have c2:(dComp2 2 [1,0] (fsL (dVar 1)) (gkName 0) dTrue (fsL (dVar 2)) (gkName 1) dTrue feA) t=some (.nw (((natsI n).flatMap fun a=>(natsI n).map fun b=>decide (gM M a b=gM M b a)).map D.bl)):=by
    have e2:=out_A S (A:=natsI n) (fun x hx=>nats_mem hx) (natsI n) .no .no (fun x hx=>nats_mem hx)
    unfold dComp2
    show (compD2 (gkName 0) dTrue (fsL (dVar 2)) (gkName 1) dTrue feA ((natsI n).map D.int) [.no, .no, .val (.lst ((natsI n).map D.int)), .val (mD M)]).bind _=_
    rw [e2]
    have ll:=flatA_len (natsI n) (fun a b=>decide (gM M a b=gM M b a)) (natsI n)
    rw [natsI_len] at ll
    have:n * n ≤ 60 * 60:=Nat.mul_le_mul hn hn
    simp only [Option.bind_some,flats_bls,Bool.and_true,List.length_map]
    rw [if_pos (decide_eq_true (by omega))]
  have c3:=all_of c2 rfl
  rw [flatA_all] at c3
  exact bnd ((seq_nx E1).trans (ret_of c3))
def stB (n:Nat) (M:List (List Int)):Bool:=M.all fun r=>(natsI n).all fun k=>(natsI n).all fun e => !decide (r.getD k.toNat 0 + gM M k e < r.getD e.toNat 0)
theorem any_of {f:DE} {t:Th} {r:Ev} {bs:List Bool} (h:f t=some r) (hr:r.d = .lst (bs.map D.bl)):(dT1 (kBls fun bs=>bs.any id) (dCons f dNil)) t=some (.cl (.bl (bs.any id))):=by
  rw [t1_of h]
  unfold kBls
  simp only [hr,blsD_map,Option.map_some]
theorem comp_bm {fe:DE} {f:Int→Bool} {ext:Th}:∀ (xs:List Int) (s:Sl),(∀ x ∈ xs,fe (.val (.int x) :: ext)=some (.cl (.bl (f x))))→compD (gkName 0) dTrue fe (xs.map D.int) (s :: ext)=some ((xs.map f).map D.bl)
  | [],s,_=>rfl
  | x :: xs,s,he=>by
    have e0:gkName 0 (.int x) (s :: ext)=some (.val (.int x) :: ext):=rfl
    simp only [List.map_cons,compD,e0,Option.bind_some,dTrue,he x (List.mem_cons_self ..),if_true]
    rw [comp_bm xs _ fun y hy=>he y (List.mem_cons_of_mem _ hy)]
    rfl
theorem any_map {α:Type} (f:α→Bool):∀ l:List α,(l.map f).any id=l.any f
  | []=>rfl
  | x :: l=>by simp only [List.map_cons,List.any_cons,any_map f l,id]
def feS:DE:=(d2 (kI tt2 fun i j => .bl (decide (j < i))) (d2 kIx (dVar 1) (dVar 0)) (d2 (kOr (kI tt2 fun i j => .int (i + j)) kCat) (dVar 2) (d2 kIx (d2 kIx (dVar 3) (dVar 4)) (dVar 0))))
def bdS:DS:=(dSeq (dAsg 4 (d2 kIx (dVar 2) (dVar 3)))
    (dIfS (dTr (dT1 (kBls fun bs=>bs.any id) (dCons (dComp 1 [2,4,0,3] (fsL (dVar 1)) (gkName 0) dTrue feS) dNil))) (dRet (dC (.bl false))) dSkip))
def okS (n:Nat) (M:List (List Int)) (r:List Int) (k:Int):Bool:=(natsI n).all fun e => !decide (r.getD k.toNat 0 + gM M k e < r.getD e.toNat 0)
theorem not_any (f:Int→Bool):∀ l:List Int,(l.any f) = !(l.all fun x => !f x)
  | []=>rfl
  | x :: l=>by simp only [List.any_cons,List.all_cons,not_any f l,Bool.not_and,Bool.not_not]
abbrev tS (n:Nat) (M:List (List Int)) (r:Sl) (s3 s4:Sl):Th:=[.val (mD M), .val (.lst ((natsI n).map D.int)),r,s3,s4]
theorem turn_S {n:Nat} {M:List (List Int)} (S:Sq n M) (hn:n ≤ 60) {r:List Int} (hr:r.length=n) {k:Int} (k0:0 ≤ k) (k1:k < (n:Int)) (s4:Sl):∃ u4,bdS (tS n M (.val (rwD r)) (.val (.int k)) s4)=if okS n M r k=true then some (.nx (tS n M (.val (rwD r)) (.val (.int k)) u4)) else some (.rt (.cl (.bl false))):=by
  obtain ⟨j,rfl⟩:∃ j:Nat,k=(j:Int):=⟨k.toNat,by omega⟩
  have x:=ixe_of (fa:=dVar 2) (fb:=dVar 3) (t:=tS n M (.val (rwD r)) (.val (.int (j:Int))) s4) (r1 := .cl (rwD r)) (r2 := .cl (.int (j:Int))) r j rfl rfl (by omega) rfl rfl
  have E1:=asg_cl (i:=4) x (by simp)
  let t:Th:=tS n M (.val (rwD r)) (.val (.int (j:Int))) (.val (.int (r.getD j 0)))
  have c2:(dComp 1 [2,4,0,3] (fsL (dVar 1)) (gkName 0) dTrue feS) t=some (.nw (((natsI n).map fun e=>decide (r.getD j 0 + gM M (j:Int) e < r.getD e.toNat 0)).map D.bl)):=by
    have e2:=comp_bm (fe:=feS) (f:=fun e=>decide (r.getD j 0 + gM M (j:Int) e < r.getD e.toNat 0)) (ext:=[.val (rwD r), .val (.int (r.getD j 0)), .val (mD M), .val (.int (j:Int))]) (natsI n) .no (fun e he=>by
      have er:=nats_mem he
      obtain ⟨i,rfl⟩:∃ i:Nat,e=(i:Int):=⟨e.toNat,by omega⟩
      let tt:Th:=[.val (.int (i:Int)), .val (rwD r), .val (.int (r.getD j 0)), .val (mD M), .val (.int (j:Int))]
      have a1:=ixe_of (fa:=dVar 1) (fb:=dVar 0) (t:=tt) (r1 := .cl (rwD r)) (r2 := .cl (.int (i:Int))) r i rfl rfl (by omega) rfl rfl
      have a2:=ix2_of S (fa:=dVar 3) (fb:=dVar 4) (fc:=dVar 0) (t:=tt) (r1 := .cl (mD M)) (i:=(j:Int)) (j:=(i:Int)) rfl rfl rfl rfl k0 k1 er.1 er.2
      have a3:=add_of (fa:=dVar 2) (t:=tt) (a:=r.getD j 0) rfl a2
      exact (d2_of a1 a3).trans rfl)
    unfold dComp
    show (if ((natsI n).map D.int).length ≤ 50000 then (compD (gkName 0) dTrue feS ((natsI n).map D.int) [Sl.no, .val (rwD r), .val (.int (r.getD j 0)), .val (mD M), .val (.int (j:Int))]).bind _ else none)=_
    rw [if_pos (by rw [List.length_map,natsI_len]; omega),e2]
    simp only [Option.bind_some,flats_bls,Bool.or_true,if_true]
  have c3:=any_of c2 rfl
  rw [any_map,not_any] at c3
  have tr:dTr (dT1 (kBls fun bs=>bs.any id) (dCons (dComp 1 [2,4,0,3] (fsL (dVar 1)) (gkName 0) dTrue feS) dNil)) t=some (!okS n M r (j:Int)):=by
    unfold dTr
    rw [c3]
    rfl
  refine ⟨.val (.int (r.getD j 0)),(seq_nx E1).trans ?_⟩
  cases z:okS n M r (j:Int) with
  | true=>rw [z] at tr; rw [if_pos rfl]; exact grd tr rfl
  | false=>rw [z] at tr; rw [if_neg (by decide)]; exact grd_t tr rfl
theorem in_S {n:Nat} {M:List (List Int)} (S:Sq n M) (hn:n ≤ 60) {r:List Int} (hr:r.length=n):∀ (l:List Int) (s3 s4:Sl),(∀ x ∈ l,0 ≤ x∧x < (n:Int))→∃ u3 u4,forD (gkName 3) bdS (l.map D.int) (tS n M (.val (rwD r)) s3 s4)=if (l.all (okS n M r))=true then some (.nx (tS n M (.val (rwD r)) u3 u4)) else some (.rt (.cl (.bl false)))
  | [],s3,s4,_=>⟨s3,s4,rfl⟩
  | k :: l,s3,s4,h=>by
    have hk:=h k (List.mem_cons_self ..)
    obtain ⟨v4,e⟩:=turn_S S hn hr hk.1 hk.2 s4
    obtain ⟨u3,u4,ih⟩:=in_S S hn hr l (.val (.int k)) v4 fun x hx=>h x (List.mem_cons_of_mem _ hx)
    refine ⟨u3,u4,?_⟩
    have e0:gkName 3 (.int k) (tS n M (.val (rwD r)) s3 s4)=some (tS n M (.val (rwD r)) (.val (.int k)) s4):=rfl
    by_cases z:okS n M r k=true
    · rw [if_pos z] at e
      simp only [List.map_cons,forD,e0,Option.bind_some,e,List.all_cons,z,Bool.true_and]
      exact ih
    · rw [if_neg z] at e
      rw [Bool.not_eq_true] at z
      simp only [List.map_cons,forD,e0,Option.bind_some,e,List.all_cons,z,Bool.false_and,Bool.false_eq_true,if_false]
theorem out_S {n:Nat} {M:List (List Int)} (S:Sq n M) (hn:n ≤ 60):∀ (Q:List (List Int)) (s1 s2 s3 s4:Sl),(∀ r ∈ Q,r.length=n)→(s1 = .own ((natsI n).map D.int) ∨ s1 = .val (.lst ((natsI n).map D.int)))→∃ u1 u2 u3 u4,forD (gkName 2) (dFrz 1 (dFor (gkName 3) (dVar 1) bdS)) (Q.map rwD) [.val (mD M),s1,s2,s3,s4]=if (Q.all fun r=>(natsI n).all (okS n M r))=true then some (.nx [.val (mD M),u1,u2,u3,u4]) else some (.rt (.cl (.bl false)))
  | [],s1,s2,s3,s4,_,_=>⟨s1,s2,s3,s4,rfl⟩
  | r :: Q,s1,s2,s3,s4,h,hs=>by
    obtain ⟨v3,v4,e⟩:=in_S S hn (h r (List.mem_cons_self ..)) (natsI n) s3 s4 (fun x hx=>nats_mem hx)
    obtain ⟨u1,u2,u3,u4,ih⟩:=out_S S hn Q (.val (.lst ((natsI n).map D.int))) (.val (rwD r)) v3 v4 (fun x hx=>h x (List.mem_cons_of_mem _ hx)) (.inr rfl)
    refine ⟨u1,u2,u3,u4,?_⟩
    have e0:gkName 2 (rwD r) [.val (mD M),s1,s2,s3,s4]=some [.val (mD M),s1, .val (rwD r),s3,s4]:=rfl
    have e1:dFrz 1 (dFor (gkName 3) (dVar 1) bdS) [.val (mD M),s1, .val (rwD r),s3,s4]=forD (gkName 3) bdS ((natsI n).map D.int) (tS n M (.val (rwD r)) s3 s4):=by
      rcases hs with rfl | rfl <;> rfl
    by_cases z:(natsI n).all (okS n M r)=true
    · rw [if_pos z] at e
      simp only [List.map_cons,forD,e0,Option.bind_some,e1,e,List.all_cons,z,Bool.true_and]
      exact ih
    · rw [if_neg z] at e
      rw [Bool.not_eq_true] at z
      simp only [List.map_cons,forD,e0,Option.bind_some,e1,e,List.all_cons,z,Bool.false_and,Bool.false_eq_true,if_false]
theorem straight_is {n:Nat} {M:List (List Int)} (S:Sq n M) (hn:n ≤ 60):G_are_straight [mD M]=some (.cl (.bl (stB n M))):=by
  show (g_are_straight [.val (mD M), .no, .no, .no, .no]).bind outEv=_
  have ln:=lenM_of (f:=dVar 0) (t:=[.val (mD M), .no, .no, .no, .no]) (r := .cl (mD M)) rfl rfl
  rw [S.len] at ln
  have E1:=asg_nw (i:=1) (lr_of ln (by omega)) (by simp)
  obtain ⟨u1,u2,u3,u4,e⟩:=out_S S hn M (.own ((natsI n).map D.int)) .no .no .no (fun r hr=>S.row r hr) (.inl rfl)
  have E2:dFor (gkName 2) (dVar 0) (dFrz 1 (dFor (gkName 3) (dVar 1) bdS)) [.val (mD M), .own ((natsI n).map D.int), .no, .no, .no]=_:=e
  have zz:(M.all fun r=>(natsI n).all (okS n M r))=stB n M:=rfl
  rw [zz] at E2
  show (dSeq _ (dSeq (dFor (gkName 2) (dVar 0) (dFrz 1 (dFor (gkName 3) (dVar 1) bdS))) _) _).bind outEv=_
  refine bnd ((seq_nx E1).trans ?_)
  cases z:stB n M with
  | true=>rw [z,if_pos rfl] at E2; exact (seq_nx E2).trans rfl
  | false=>rw [z,if_neg (by decide)] at E2; exact seq_rt E2
theorem sq_of {M:List (List Int)} (h:sqB M=true):Sq M.length M:=by
  unfold sqB at h
  rw [List.all_eq_true] at h
  exact ⟨rfl,fun r hr=>by have:=of_decide_eq_true (h r hr); omega⟩
def szB (M:List (List Int)):Bool:=decide (1 ≤ (M.length:Int)) && decide ((M.length:Int) ≤ 40)
def rdB (M:List (List Int)):Bool:=(szB M && sqB M) && ((lenB M && (dgL 0 M).all id) && (syB M.length M && stB M.length M))
theorem roads_is {M:List (List Int)} (hl:M.length ≤ 50000):G_are_roads [mD M]=some (.cl (.bl (rdB M))):=by
  show (g_are_roads [.val (mD M)]).bind outEv=_
  let t:Th:=[.val (mD M)]
  have c1:(dT1 (kCall G_is_square) (dCons (dVar 0) dNil)) t=some (.cl (.bl (szB M && sqB M))):=(t1_of (rfl:dVar 0 t=some (.cl (mD M)))).trans (callc (square_is hl) rfl)
  refine bnd (ret_of ?_)
  refine andv_of c1 fun z=>?_
  rw [Bool.and_eq_true] at z
  have S:=sq_of z.2
  have sz:=z.1
  unfold szB at sz
  rw [Bool.and_eq_true,decide_eq_true_eq,decide_eq_true_eq] at sz
  have c2:(dT1 (kCall G_are_lengths) (dCons (dVar 0) dNil)) t=some (.cl (.bl (lenB M && (dgL 0 M).all id))):=(t1_of (rfl:dVar 0 t=some (.cl (mD M)))).trans (callc (lengths_is S (by omega)) rfl)
  have c3:(dT1 (kCall G_are_alike_both_ways) (dCons (dVar 0) dNil)) t=some (.cl (.bl (syB M.length M))):=(t1_of (rfl:dVar 0 t=some (.cl (mD M)))).trans (callc (alike_is S (by omega)) rfl)
  have c4:(dT1 (kCall G_are_straight) (dCons (dVar 0) dNil)) t=some (.cl (.bl (stB M.length M))):=(t1_of (rfl:dVar 0 t=some (.cl (mD M)))).trans (callc (straight_is S (by omega)) rfl)
  exact andv_of c2 fun _=>andv_of c3 fun _=>c4
theorem dgL_iff:∀ (M:List (List Int)) (k:Nat),(dgL k M).all id=true ↔ ∀ i:Nat,i < M.length→(M.getD i []).getD (k + i) 0=0
  | [],k=>by simp [dgL]
  | r :: M,k=>by
    have ih:=dgL_iff M (k + 1)
    simp only [dgL,List.all_cons,Bool.and_eq_true,id,decide_eq_true_eq,ih,List.length_cons]
    constructor
    · rintro ⟨a,b⟩ i hi
      cases i with
      | zero=>simpa using a
      | succ i =>
        have:=b i (by omega)
        rw [show k + (i + 1)=k + 1 + i by omega]
        simpa using this
    · intro h
      refine ⟨by simpa using h 0 (by omega),fun i hi=>?_⟩
      have:=h (i + 1) (by omega)
      rw [show k + (i + 1)=k + 1 + i by omega] at this
      simpa using this
theorem rd_iff {n:Nat} {M:List (List Int)} (S:Sq n M):rdB M=true ↔ ((1 ≤ n∧n ≤ 40)∧(∀ i j:Nat,i < n→j < n→0 ≤ eM M i j∧eM M i j ≤ 1000000000000)∧(∀ i:Nat,i < n→eM M i i=0)∧SyM n M∧TrM n n M):=by
  have sl:=S.len
  have row:∀ i:Nat,i < n→M.getD i [] ∈ M∧(M.getD i []).length=n:=fun i hi=>by
    have:M.getD i []=M[i]'(by omega):=by rw [List.getD_eq_getElem?_getD,List.getElem?_eq_getElem (by omega)]; rfl
    rw [this]
    exact ⟨List.getElem_mem _,S.row _ (List.getElem_mem _)⟩
  have sq:sqB M=true:=by
    unfold sqB
    rw [List.all_eq_true]
    exact fun r hr=>decide_eq_true (by have:=S.row r hr; omega)
  have L:lenB M=true ↔ ∀ i j:Nat,i < n→j < n→0 ≤ eM M i j∧eM M i j ≤ 1000000000000:=by
    unfold lenB
    simp only [List.all_eq_true,Bool.and_eq_true,decide_eq_true_eq]
    constructor
    · intro h i j hi hj
      obtain ⟨a,b⟩:=row i hi
      refine h _ a _ ?_
      show (M.getD i []).getD j 0 ∈ M.getD i []
      rw [List.getD_eq_getElem?_getD (l:=M.getD i []),List.getElem?_eq_getElem (by omega)]
      exact List.getElem_mem _
    · intro h r hr x hx
      obtain ⟨i,hi,rfl⟩:=List.getElem_of_mem hr
      obtain ⟨j,hj,rfl⟩:=List.getElem_of_mem hx
      have rl:=S.row _ hr
      have:=h i j (by omega) (by omega)
      have e:eM M i j=M[i][j]:=by
        show (M.getD i []).getD j 0=_
        have:M.getD i []=M[i]:=by rw [List.getD_eq_getElem?_getD,List.getElem?_eq_getElem hi]; rfl
        rw [this,List.getD_eq_getElem?_getD,List.getElem?_eq_getElem hj]; rfl
      rw [e] at this
      exact this
  have G:=dgL_iff M 0
  simp only [Nat.zero_add] at G
  have nn:∀ i:Int,i ∈ natsI n ↔ 0 ≤ i∧i < (n:Int):=fun i=>⟨fun h=>nats_mem h,fun h=>mem_nats h.1 h.2⟩
  have Y:syB n M=true ↔ SyM n M:=by
    unfold syB
    simp only [List.all_eq_true,decide_eq_true_eq,nn]
    constructor
    · intro h i j hi hj
      exact h (i:Int) ⟨by omega,by omega⟩ (j:Int) ⟨by omega,by omega⟩
    · intro h a ha b hb
      exact h a.toNat b.toNat (by omega) (by omega)
  have T:stB n M=true ↔ TrM n n M:=by
    unfold stB
    simp only [List.all_eq_true,Bool.not_eq_true',decide_eq_false_iff_not,nn]
    constructor
    · intro h t i j ht hi hj
      have:=h _ (row i hi).1 (t:Int) ⟨by omega,by omega⟩ (j:Int) ⟨by omega,by omega⟩
      have : ¬ (eM M i t + eM M t j < eM M i j):=this
      omega
    · intro h r hr k hk e he
      obtain ⟨i,hi,rfl⟩:=List.getElem_of_mem hr
      have:=h k.toNat i e.toNat (by omega) (by omega) (by omega)
      have q:M.getD i []=M[i]:=by rw [List.getD_eq_getElem?_getD,List.getElem?_eq_getElem hi]; rfl
      have:(M.getD i []).getD e.toNat 0 ≤ (M.getD i []).getD k.toNat 0 + gM M k e:=this
      rw [q] at this
      omega
  unfold rdB szB
  rw [sq,sl]
  simp only [Bool.and_true,Bool.and_eq_true,decide_eq_true_eq,L,G,Y,T,sl]
  constructor
  · rintro ⟨a,⟨b,c⟩,d,e⟩
    exact ⟨⟨by omega,by omega⟩,b,c,d,e⟩
  · rintro ⟨a,b,c,d,e⟩
    exact ⟨⟨by omega,by omega⟩,⟨b,c⟩,d,e⟩
theorem rd_roads {n:Nat} {M:List (List Int)} (n0:1 ≤ n) (n1:n ≤ 40) (R:Rds n M∧SyM n M∧TrM n n M∧BdM n M):rdB M=true :=
  (rd_iff R.1.sq).mpr ⟨⟨n0,n1⟩,fun i j hi hj=>⟨R.1.nn i j hi hj,R.2.2.2 i j hi hj⟩,R.1.dg,R.2.1,R.2.2.1⟩
theorem for_B {α:Type} {v:α→D} {k:D→Th→Option Th} {b:DS} {P:Th→Prop} {p:α→Bool}:∀ (xs:List α),(∀ x ∈ xs, ∀ t,P t→∃ t1,k (v x) t=some t1∧((p x=true∧∃ t2,b t1=some (.nx t2)∧P t2) ∨ (p x=false∧b t1=some (.rt (.cl (.bl false))))))→∀ t,P t→(xs.all p=true∧∃ t',forD k b (xs.map v) t=some (.nx t')∧P t') ∨ (xs.all p=false∧forD k b (xs.map v) t=some (.rt (.cl (.bl false))))
  | [],_,t,h => .inl ⟨rfl,t,rfl,h⟩
  | x :: xs,hb,t,h=>by
    obtain ⟨t1,e1,r⟩:=hb x (List.mem_cons_self ..) t h
    rcases r with ⟨z,t2,e2,h2⟩ | ⟨z,e2⟩
    · rcases for_B xs (fun y hy=>hb y (List.mem_cons_of_mem _ hy)) t2 h2 with ⟨a,t',e,h'⟩ | ⟨a,e⟩
      · exact .inl ⟨by rw [List.all_cons,z,a]; rfl,t',by simp only [List.map_cons,forD,e1,Option.bind_some,e2]; exact e,h'⟩
      · exact .inr ⟨by rw [List.all_cons,z,a]; rfl,by simp only [List.map_cons,forD,e1,Option.bind_some,e2]; exact e⟩
    · exact .inr ⟨by rw [List.all_cons,z]; rfl,by simp only [List.map_cons,forD,e1,Option.bind_some,e2]⟩
def cdW:DT:=(dOr (dBo (d2 (kI tt2 fun i j => .bl (decide (i < j))) (dVar 5) (dC (.int 0)))) (dOr (dBo (d2 (kI tt2 fun i j => .bl (decide (j < i))) (dVar 5) (d2 (kI cPow fun i j => .int (i ^ j.toNat)) (dC (.int 10)) (dC (.int 12))))) (dOr (dBo (d2 kNe (dVar 5) (d2 kIx (d2 kIx (dVar 0) (dVar 4)) (dVar 3)))) (dAnd (dBo (d2 kEq (dVar 3) (dVar 4))) (dBo (d2 kNe (dVar 5) (dC (.int 0))))))))
def bdW3:DS:=(dIfS (dBo (d2 (kI tt2 fun i j => .bl (decide (i < j))) (d2 (kOr (kI tt2 fun i j => .int (i + j)) kCat) (d2 kIx (d2 kIx (dVar 0) (dVar 3)) (dVar 6)) (d2 kIx (d2 kIx (dVar 0) (dVar 6)) (dVar 4))) (dVar 5))) (dRet (dC (.bl false))) dSkip)
def bdW2:DS:=(dSeq (dAsg 5 (d2 kIx (d2 kIx (dVar 0) (dVar 3)) (dVar 4)))
    (dSeq (dIfS cdW (dRet (dC (.bl false))) dSkip)
    (dRng1 (gkName 6) (dVar 1) bdW3)))
def bdW1:DS:=(dRng1 (gkName 4) (dVar 1) bdW2)
def bdW0:DS:=(dIfS (dBo (d2 kNe (dT1 kLen (dCons (dVar 2) dNil)) (dVar 1))) (dRet (dC (.bl false))) dSkip)
theorem are_eq:g_law_are=(dSeq (dAsg 1 (dT1 kLen (dCons (dVar 0) dNil)))
    (dSeq (dIfS (dBo (d2 (kI tt2 fun i j => .bl (decide (i < j))) (dVar 1) (dC (.int 1)))) (dRet (dC (.bl false))) dSkip)
    (dSeq (dFor (gkName 2) (dVar 0) bdW0)
    (dSeq (dRng1 (gkName 3) (dVar 1) bdW1)
    (dRet (dC (.bl true))))))):=rfl
def p3 (M:List (List Int)) (i j t:Int):Bool := !decide (gM M i t + gM M t j < gM M i j)
def p2 (n:Nat) (M:List (List Int)) (i j:Int):Bool := !(decide (gM M i j < 0) || (decide (1000000000000 < gM M i j) || ((!decide (gM M i j=gM M j i)) || (decide (i=j) && !decide (gM M i j=0))))) && (natsI n).all (p3 M i j)
abbrev tW (n:Nat) (M:List (List Int)) (s2 s3 s4 s5 s6:Sl):Th:=[.val (mD M), .val (.int (n:Int)),s2,s3,s4,s5,s6]
theorem turn_W3 {n:Nat} {M:List (List Int)} (S:Sq n M) {i j:Int} (i0:0 ≤ i) (i1:i < (n:Int)) (j0:0 ≤ j) (j1:j < (n:Int)) (s2:Sl) {t:Int} (t0:0 ≤ t) (t1:t < (n:Int)):dBo (d2 (kI tt2 fun i j => .bl (decide (i < j))) (d2 (kOr (kI tt2 fun i j => .int (i + j)) kCat) (d2 kIx (d2 kIx (dVar 0) (dVar 3)) (dVar 6)) (d2 kIx (d2 kIx (dVar 0) (dVar 6)) (dVar 4))) (dVar 5)) (tW n M s2 (.val (.int i)) (.val (.int j)) (.val (.int (gM M i j))) (.val (.int t)))=some (!p3 M i j t):=by
  let tt:Th:=tW n M s2 (.val (.int i)) (.val (.int j)) (.val (.int (gM M i j))) (.val (.int t))
  have a1:=ix2_of S (fa:=dVar 0) (fb:=dVar 3) (fc:=dVar 6) (t:=tt) (r1 := .cl (mD M)) (i:=i) (j:=t) rfl rfl rfl rfl i0 i1 t0 t1
  have a2:=ix2_of S (fa:=dVar 0) (fb:=dVar 6) (fc:=dVar 4) (t:=tt) (r1 := .cl (mD M)) (i:=t) (j:=j) rfl rfl rfl rfl t0 t1 j0 j1
  have:=lt_of (add_of a1 a2) (rfl:dVar 5 tt=some (.cl (.int (gM M i j))))
  unfold p3
  rw [Bool.not_not]
  exact this
theorem turn_W2 {n:Nat} {M:List (List Int)} (S:Sq n M) (hn:n ≤ 60) {i j:Int} (i0:0 ≤ i) (i1:i < (n:Int)) (j0:0 ≤ j) (j1:j < (n:Int)) (s2 s5 s6:Sl):(p2 n M i j=true∧∃ u5 u6,bdW2 (tW n M s2 (.val (.int i)) (.val (.int j)) s5 s6)=some (.nx (tW n M s2 (.val (.int i)) (.val (.int j)) u5 u6))) ∨ (p2 n M i j=false∧bdW2 (tW n M s2 (.val (.int i)) (.val (.int j)) s5 s6)=some (.rt (.cl (.bl false)))):=by
  have a1:=ix2_of S (fa:=dVar 0) (fb:=dVar 3) (fc:=dVar 4) (t:=tW n M s2 (.val (.int i)) (.val (.int j)) s5 s6) (r1 := .cl (mD M)) (i:=i) (j:=j) rfl rfl rfl rfl i0 i1 j0 j1
  have E1:=asg_cl (i:=5) a1 (by simp)
  let t:Th:=tW n M s2 (.val (.int i)) (.val (.int j)) (.val (.int (gM M i j))) s6
  have v5:dVar 5 t=some (.cl (.int (gM M i j))):=rfl
  have a2:=ix2_of S (fa:=dVar 0) (fb:=dVar 4) (fc:=dVar 3) (t:=t) (r1 := .cl (mD M)) (i:=j) (j:=i) rfl rfl rfl rfl j0 j1 i0 i1
  have cc:cdW t=some _:=or_of2 (lt_of v5 (rfl:dC (.int 0) t=some (.cl (.int 0)))) (or_of2 (gt_of v5 (pow12 t)) (or_of2 (neI_of v5 a2) (and_of2 (eqI_of (rfl:dVar 3 t=some (.cl (.int i))) (rfl:dVar 4 t=some (.cl (.int j)))) (neI_of v5 (rfl:dC (.int 0) t=some (.cl (.int 0)))))))
  unfold p2
  cases z:(decide (gM M i j < 0) || (decide (1000000000000 < gM M i j) || ((!decide (gM M i j=gM M j i)) || (decide (i=j) && !decide (gM M i j=0))))) with
  | true=>exact .inr ⟨rfl,(seq_nx E1).trans (seq_rt (grd_t cc z))⟩
  | false =>
    have E2:=grd (g:=dRet (dC (.bl false))) cc z
    have lo:=for_B (α:=Int) (v:=D.int) (k:=gkName 6) (b:=bdW3) (P:=fun t => ∃ u6,t=tW n M s2 (.val (.int i)) (.val (.int j)) (.val (.int (gM M i j))) u6) (p:=p3 M i j) (natsI n) (fun x hx t' ⟨u6,et⟩=>by
      subst et
      have xr:=nats_mem hx
      have q:=turn_W3 S i0 i1 j0 j1 s2 xr.1 xr.2
      refine ⟨_,rfl,?_⟩
      cases y:p3 M i j x with
      | true=>rw [y] at q; exact .inl ⟨rfl,_,grd q rfl,_,rfl⟩
      | false=>rw [y] at q; exact .inr ⟨rfl,grd_t q rfl⟩) t ⟨s6,rfl⟩
    have rg:=rng1_of (k0:=gkName 6) (b:=bdW3) (f:=dVar 1) (t:=t) (r := .cl (.int (n:Int))) (n:=n) rfl rfl (by omega)
    rcases lo with ⟨al,t',e,u6,rfl⟩ | ⟨al,e⟩
    · exact .inl ⟨by rw [al]; rfl,_,u6,(seq_nx E1).trans ((seq_nx E2).trans (rg.trans e))⟩
    · exact .inr ⟨by rw [al]; rfl,(seq_nx E1).trans ((seq_nx E2).trans (rg.trans e))⟩
def laB (M:List (List Int)):Bool:=decide (¬ (M.length:Int) < 1) && (sqB M && (natsI M.length).all fun i=>(natsI M.length).all fun j=>p2 M.length M i j)
theorem lare_is {M:List (List Int)} (hl:M.length ≤ 60):G_law_are [mD M]=some (.cl (.bl (laB M))):=by
  show (g_law_are [.val (mD M), .no, .no, .no, .no, .no, .no]).bind outEv=_
  rw [are_eq]
  have ln:=lenM_of (f:=dVar 0) (t:=[.val (mD M), .no, .no, .no, .no, .no, .no]) (r := .cl (mD M)) rfl rfl
  have E1:=asg_cl (i:=1) ln (by simp)
  let t:Th:=tW M.length M .no .no .no .no .no
  have c1:=lt_of (rfl:dVar 1 t=some (.cl (.int (M.length:Int)))) (rfl:dC (.int 1) t=some (.cl (.int 1)))
  unfold laB
  by_cases z:(M.length:Int) < 1
  · rw [decide_eq_false (fun w=>w z)]
    exact bnd ((seq_nx E1).trans (seq_rt (grd_t c1 (decide_eq_true z))))
  rw [decide_eq_true z,Bool.true_and]
  have E2:=grd (g:=dRet (dC (.bl false))) c1 (decide_eq_false z)
  have lo:=for_B (α:=List Int) (v:=rwD) (k:=gkName 2) (b:=bdW0) (P:=fun t => ∃ u2,t=tW M.length M u2 .no .no .no .no) (p:=fun r=>decide ((r.length:Int)=(M.length:Int))) M (fun r hr t' ⟨u2,et⟩=>by
    subst et
    refine ⟨_,rfl,?_⟩
    have q:=neI_of (len_of (f:=dVar 2) (t:=tW M.length M (.val (rwD r)) .no .no .no .no) (r := .cl (rwD r)) (xs:=r) rfl rfl) (rfl:dVar 1 (tW M.length M (.val (rwD r)) .no .no .no .no)=some (.cl (.int (M.length:Int))))
    by_cases y:(r.length:Int)=(M.length:Int)
    · exact .inl ⟨decide_eq_true y,_,grd q (by rw [decide_eq_true y]; rfl),_,rfl⟩
    · exact .inr ⟨decide_eq_false y,grd_t q (by rw [decide_eq_false y]; rfl)⟩) t ⟨.no,rfl⟩
  have fo:dFor (gkName 2) (dVar 0) bdW0 t=forD (gkName 2) bdW0 (M.map rwD) t:=rfl
  rcases lo with ⟨al,t',e,u2,rfl⟩ | ⟨al,e⟩
  · have sq:sqB M=true:=al
    have S:=sq_of sq
    rw [sq,Bool.true_and]
    have lo:=for_B (α:=Int) (v:=D.int) (k:=gkName 3) (b:=bdW1) (P:=fun t => ∃ u3 u4 u5 u6,t=tW M.length M u2 u3 u4 u5 u6) (p:=fun i=>(natsI M.length).all fun j=>p2 M.length M i j) (natsI M.length) (fun i hi t' ⟨u3,u4,u5,u6,et⟩=>by
      subst et
      have ir:=nats_mem hi
      refine ⟨_,rfl,?_⟩
      have lj:=for_B (α:=Int) (v:=D.int) (k:=gkName 4) (b:=bdW2) (P:=fun t => ∃ u4 u5 u6,t=tW M.length M u2 (.val (.int i)) u4 u5 u6) (p:=fun j=>p2 M.length M i j) (natsI M.length) (fun j hj t' ⟨u4,u5,u6,et⟩=>by
        subst et
        have jr:=nats_mem hj
        refine ⟨_,rfl,?_⟩
        rcases turn_W2 S hl ir.1 ir.2 jr.1 jr.2 u2 u5 u6 with ⟨a,v5,v6,e⟩ | ⟨a,e⟩
        · exact .inl ⟨a,_,e,_,v5,v6,rfl⟩
        · exact .inr ⟨a,e⟩) (tW M.length M u2 (.val (.int i)) u4 u5 u6) ⟨u4,u5,u6,rfl⟩
      have rg:=rng1_of (k0:=gkName 4) (b:=bdW2) (f:=dVar 1) (t:=tW M.length M u2 (.val (.int i)) u4 u5 u6) (r := .cl (.int (M.length:Int))) (n:=M.length) rfl rfl (by omega)
      rcases lj with ⟨a,t',e,v4,v5,v6,rfl⟩ | ⟨a,e⟩
      · exact .inl ⟨a,_,rg.trans e,_,v4,v5,v6,rfl⟩
      · exact .inr ⟨a,rg.trans e⟩) (tW M.length M u2 .no .no .no .no) ⟨.no, .no, .no, .no,rfl⟩
    have rg:=rng1_of (k0:=gkName 3) (b:=bdW1) (f:=dVar 1) (t:=tW M.length M u2 .no .no .no .no) (r := .cl (.int (M.length:Int))) (n:=M.length) rfl rfl (by omega)
    rcases lo with ⟨a,t',e',v3,v4,v5,v6,rfl⟩ | ⟨a,e'⟩
    · rw [a]
      exact bnd ((seq_nx E1).trans ((seq_nx E2).trans ((seq_nx (fo.trans e)).trans ((seq_nx (rg.trans e')).trans rfl))))
    · rw [a]
      exact bnd ((seq_nx E1).trans ((seq_nx E2).trans ((seq_nx (fo.trans e)).trans (seq_rt (rg.trans e')))))
  · have sq:sqB M=false:=al
    rw [sq]
    exact bnd ((seq_nx E1).trans ((seq_nx E2).trans (seq_rt (fo.trans e))))
theorem p2_iff {n:Nat} {M:List (List Int)} {i j:Nat} (hi:i < n) (hj:j < n):p2 n M (i:Int) (j:Int)=true ↔ ((0 ≤ eM M i j∧eM M i j ≤ 1000000000000)∧eM M i j=eM M j i∧(i=j→eM M i j=0)∧∀ t:Nat,t < n→eM M i j ≤ eM M i t + eM M t j):=by
  have g:∀ a b:Nat,gM M (a:Int) (b:Int)=eM M a b:=fun _ _=>rfl
  have T:(natsI n).all (p3 M (i:Int) (j:Int))=true ↔ ∀ t:Nat,t < n→eM M i j ≤ eM M i t + eM M t j:=by
    rw [List.all_eq_true]
    unfold p3
    constructor
    · intro h t ht
      have:=h (t:Int) (mem_nats (by omega) (by omega))
      simp only [Bool.not_eq_true',decide_eq_false_iff_not,g] at this
      omega
    · intro h x hx
      have xr:=nats_mem hx
      obtain ⟨t,rfl⟩:∃ t:Nat,x=(t:Int):=⟨x.toNat,by omega⟩
      have:=h t (by omega)
      simp only [Bool.not_eq_true',decide_eq_false_iff_not,g]
      omega
  unfold p2
  rw [Bool.and_eq_true,T]
  simp only [g,Bool.not_eq_true',Bool.or_eq_false_iff,decide_eq_false_iff_not,Bool.not_eq_false',decide_eq_true_eq,Bool.and_eq_false_iff]
  constructor
  · rintro ⟨⟨a,b,c,d⟩,e⟩
    refine ⟨⟨by omega,by omega⟩,c,fun q=>?_,e⟩
    rcases d with d | d
    · exact absurd (by omega) d
    · exact d
  · rintro ⟨⟨a,b⟩,c,d,e⟩
    refine ⟨⟨by omega,by omega,c,?_⟩,e⟩
    by_cases q:i=j
    · exact .inr (d q)
    · exact .inl (by omega)
theorem la_rd {M:List (List Int)} (hl:M.length ≤ 40):laB M=rdB M:=by
  by_cases z:(M.length:Int) < 1
  · unfold laB rdB szB
    rw [decide_eq_false (fun w=>w z),decide_eq_false (show ¬ (1 ≤ (M.length:Int)) by omega)]
    simp
  cases sq:sqB M with
  | false =>
    unfold laB rdB
    rw [sq]
    simp
  | true =>
    have S:=sq_of sq
    have R:=rd_iff S
    rw [Bool.eq_iff_iff,R]
    unfold laB
    rw [decide_eq_true z,sq]
    simp only [Bool.true_and,List.all_eq_true]
    constructor
    · intro h
      have H:∀ i j:Nat,i < M.length→j < M.length→_:=fun i j hi hj=>(p2_iff (M:=M) hi hj).mp (h (i:Int) (mem_nats (by omega) (by omega)) (j:Int) (mem_nats (by omega) (by omega)))
      exact ⟨⟨by omega,hl⟩,fun i j hi hj=>(H i j hi hj).1,fun i hi=>(H i i hi hi).2.2.1 rfl,fun i j hi hj=>(H i j hi hj).2.1,fun t i j ht hi hj=>(H i j hi hj).2.2.2 t ht⟩
    · rintro ⟨_,a,b,c,d⟩ x hx y hy
      have xr:=nats_mem hx
      have yr:=nats_mem hy
      obtain ⟨i,rfl⟩:∃ i:Nat,x=(i:Int):=⟨x.toNat,by omega⟩
      obtain ⟨j,rfl⟩:∃ j:Nat,y=(j:Int):=⟨y.toNat,by omega⟩
      have hi:i < M.length:=by omega
      have hj:j < M.length:=by omega
      exact (p2_iff hi hj).mpr ⟨a i j hi hj,c i j hi hj,fun q=>by subst q; exact b i hi,fun t ht=>d t i j ht hi hj⟩
theorem compN_rows:∀ (M:List (List Int)) (s:Sl),compN (gkName 0) dTrue (dT1 kList (dCons (dVar 0) dNil)) (M.map rwD) [s]=some (M.map rwD)
  | [],s=>rfl
  | r :: M,s=>by
    have e0:gkName 0 (rwD r) [s]=some [.val (rwD r)]:=rfl
    have e1:=list_of (f:=dVar 0) (t:=[.val (rwD r)]) (r := .cl (rwD r)) (xs:=r) rfl rfl
    have e2:toDn (.nw (r.map D.int))=some (rwD r):=by simp only [toDn,flats_ints,if_true]; rfl
    have ih:=compN_rows M (.val (rwD r))
    simp only [List.map_cons,compN,e0,Option.bind_some,dTrue,if_true,e1,e2,ih,Option.map_some]
theorem kept_of {t:Th} {i:Nat} {M:List (List Int)} {r:Ev} (h:dVar i t=some r) (hr:r.d=mD M) (hl:M.length ≤ 50000):(dCompN 1 [] (fsL (dVar i)) (gkName 0) dTrue (dT1 kList (dCons (dVar 0) dNil))) t=some (.dn (mD M)):=by
  unfold dCompN fsL
  rw [h]
  simp only [Option.bind_some,hr]
  show (if (M.map rwD).length ≤ 50000 then (compN (gkName 0) dTrue (dT1 kList (dCons (dVar 0) dNil)) (M.map rwD) [Sl.no]).map (fun xs=>Ev.dn (.lst xs)) else none)=_
  rw [if_pos (by simpa using hl),compN_rows]
  rfl
theorem rowAt {n:Nat} {M:List (List Int)} (S:Sq n M) {i:Nat} (hi:i < n):(M.map rwD)[i]?=some (rwD (M.getD i [])):=by
  have hl:=S.len
  simp [List.getD_eq_getElem?_getD,show i < M.length by omega]
theorem getP_row {n:Nat} {M:List (List Int)} (S:Sq n M) {i:Nat} (hi:i < n):getP (mD M) [(i:Int)]=some (rwD (M.getD i [])):=by
  have hl:=S.len
  show (atI (M.map rwD) (i:Int)).bind (fun x=>getP x [])=_
  unfold atI
  rw [ix_nat _ i (by rw [List.length_map]; omega),Option.bind_some,rowAt S hi,Option.bind_some]
  rfl
theorem putP_row {n:Nat} {M:List (List Int)} (S:Sq n M) {i:Nat} (hi:i < n) (r:List Int):putP (mD M) [(i:Int)] (rwD r)=some (mD (M.set i r)):=by
  have hl:=S.len
  show ((ixN (M.map rwD).length (i:Int)).bind fun j=>((M.map rwD)[j]?).bind fun x=>(some (rwD r)).map fun y=>D.lst ((M.map rwD).set j y))=_
  rw [ix_nat _ i (by rw [List.length_map]; omega),Option.bind_some,rowAt S hi,Option.bind_some,Option.map_some]
  show some (D.lst ((M.map rwD).set i (rwD r)))=some (D.lst ((M.set i r).map rwD))
  rw [List.map_set]
theorem pth1 {f:DE} {t:Th} {i:Nat} (h:f t=some (.cl (.int (i:Int)))):pthD [f] t=some [(i:Int)]:=by
  simp [pthD,h,Ev.d]
theorem appP_of {t:Th} {s:Nat} {f:DE} {n i:Nat} {M:List (List Int)} (S:Sq n M) (hn:n ≤ 1000) (hi:i < n) (hf:f t=some (.cl (.int (i:Int)))) (hs:t[s]?=some (.dp (mD M))) (v:Int):dAppP s [f] (dC (.int v)) t=some (.nx (t.set s (.dp (mD (M.set i (M.getD i [] ++ [v])))))):=by
  unfold dAppP
  rw [pth1 hf]
  show kAppP t s [(i:Int)] (.cl (.int v))=_
  unfold kAppP
  rw [hs]
  simp only [getP_row S hi]
  have rl:(M.getD i []).length=n:=S.rowD hi
  show (if (flat (D.int v) && decide (((M.getD i []).map D.int).length < 100000))=true then (putP (mD M) [(i:Int)] (.lst ((M.getD i []).map D.int ++ [.int v]))).map _ else none)=_
  rw [if_pos (by rw [List.length_map,rl]; simp [flat]; omega)]
  rw [show D.lst ((M.getD i []).map D.int ++ [.int v])=rwD (M.getD i [] ++ [v]) by simp [rwD],putP_row S hi]
  rfl
theorem popP_of {t:Th} {s:Nat} {f:DE} {n i:Nat} {M:List (List Int)} (S:Sq n M) (hi:i < n) (hf:f t=some (.cl (.int (i:Int)))) (hs:t[s]?=some (.dp (mD M))):dPopP s [f] t=some (.nx (t.set s (.dp (mD (M.set i (M.getD i []).dropLast))))):=by
  unfold dPopP
  rw [pth1 hf]
  show kPop0 t s [(i:Int)]=_
  unfold kPop0
  rw [hs]
  simp only [getP_row S hi]
  have rl:(M.getD i []).length=n:=S.rowD hi
  show (if ((M.getD i []).map D.int).length=0 then none else (putP (mD M) [(i:Int)] (.lst ((M.getD i []).map D.int).dropLast)).map _)=_
  rw [if_neg (by rw [List.length_map,rl]; omega)]
  rw [show D.lst ((M.getD i []).map D.int).dropLast=rwD (M.getD i []).dropLast by simp [rwD,List.map_dropLast],putP_row S hi]
  rfl
theorem popAt_of {t:Th} {s:Nat} {f:DE} {n i:Nat} {M:List (List Int)} (S:Sq n M) (hn:n ≤ 1000) (hi:i < n) (hf:f t=some (.cl (.int (i:Int)))) (hs:t[s]?=some (.dp (mD M))):dPopAtP s [] f t=some (.nx (t.set s (.dp (mD (M.eraseIdx i))))):=by
  have hl:=S.len
  unfold dPopAtP
  rw [show pthD [] t=some [] from rfl,hf]
  show kPopP t s [] (.cl (.int (i:Int)))=_
  unfold kPopP
  rw [hs]
  show (if decide (-1000000 ≤ (i:Int)∧(i:Int) ≤ 1000000)=true then (ixN (M.map rwD).length (i:Int)).bind (fun q=>(some (D.lst ((M.map rwD).eraseIdx q))).map fun d2=>Out.nx (t.set s (.dp d2))) else none)=_
  rw [if_pos (decide_eq_true ⟨by omega,by omega⟩),ix_nat _ i (by rw [List.length_map]; omega)]
  have er:∀ (M:List (List Int)) (i:Nat),(M.map rwD).eraseIdx i=(M.eraseIdx i).map rwD:=fun M=>by
    induction M with
    | nil=>intro i; rfl
    | cons r M ih =>
      intro i
      cases i with
      | zero=>rfl
      | succ i=>simp only [List.map_cons,List.eraseIdx_cons_succ,ih i]
  have this:=er M i
  rw [Option.bind_some,this]
  rfl
def fP1:DS:=(dIfS (dBo (d2 (kI tt2 fun i j => .bl (decide (i < j))) (dVar 6) (dC (.int 3)))) (dSetP 3 [(dVar 4)] (dVar 5) (d2 (kOr (kI tt2 fun i j => .int (i + j)) kCat) (d2 kIx (d2 kIx (dVar 3) (dVar 4)) (dVar 5)) (d2 kIx (dT1 kLst (dCons (dC (.int 1)) (dCons (d1 kNeg (dC (.int 1))) (dCons (dC (.int 7)) dNil)))) (dVar 6)))) dSkip)
def fP2:DS:=(dIfS (dOr (dBo (d2 kEq (dVar 6) (dC (.int 3)))) (dBo (d2 kEq (dVar 6) (dC (.int 4))))) (dSeq (dSetP 3 [(dVar 4)] (dVar 5) (d2 (kOr (kI tt2 fun i j => .int (i + j)) kCat) (d2 kIx (d2 kIx (dVar 3) (dVar 4)) (dVar 5)) (d2 kIx (dT1 kLst (dCons (dC (.int 1)) (dCons (d1 kNeg (dC (.int 1))) dNil))) (d2 (kI tt2 fun i j => .int (i - j)) (dVar 6) (dC (.int 3))))))
    (dSetP 3 [(dVar 5)] (dVar 4) (d2 kIx (d2 kIx (dVar 3) (dVar 4)) (dVar 5)))) dSkip)
def fP3:DS:=(dIfS (dBo (d2 kEq (dVar 6) (dC (.int 5)))) (dSeq (dSetP 3 [(dVar 4)] (dVar 5) (d2 (kOr (kI tt2 fun i j => .int (i + j)) kCat) (d2 (kI cPow fun i j => .int (i ^ j.toNat)) (dC (.int 10)) (dC (.int 12))) (d2 (kI cMod fun i j => .int (i.fmod j)) (d2 (kI cDiv fun i j => .int (i.fdiv j)) (dVar 1) (dC (.int 997))) (dC (.int 2)))))
    (dSetP 3 [(dVar 5)] (dVar 4) (d2 kIx (d2 kIx (dVar 3) (dVar 4)) (dVar 5)))) dSkip)
def fP4:DS:=(dIfS (dBo (d2 kEq (dVar 6) (dC (.int 6)))) (dAppP 3 [(dVar 4)] (dC (.int 0))) dSkip)
def fP5:DS:=(dIfS (dBo (d2 kEq (dVar 6) (dC (.int 7)))) (dPopP 3 [(dVar 4)]) dSkip)
def fP6:DS:=(dIfS (dBo (d2 kEq (dVar 6) (dC (.int 8)))) (dPopAtP 3 [] (dVar 4)) dSkip)
def fP7:DS:=(dIfS (dBo (d2 kEq (dVar 6) (dC (.int 9)))) (dAsg 3 (dT1 kLst dNil)) dSkip)
def aP7:DS:=(dAsg 3 (dT1 kLst dNil))
def tlP:DS:=dSeq fP1 (dSeq fP2 (dSeq fP3 (dSeq fP4 (dSeq fP5 (dSeq fP6 (dSeq fP7 (dRetO 3)))))))
abbrev tP (M:List (List Int)) (v:Int) (n:Nat) (s3:Sl) (o p:Nat) (w:Int):Th:=[.val (mD M), .val (.int v), .val (.int (n:Int)),s3, .val (.int (o:Int)), .val (.int (p:Int)), .val (.int w)]
theorem tail_P {n:Nat} {M:List (List Int)} (S:Sq n M) (hn:n ≤ 1000) (v:Int) {o p:Nat} (ho:o < n) (hp:p < n) {w:Int} (w0:0 ≤ w) (w1:w < 10):∃ (M':List (List Int)) (r:Ev),M'.length ≤ n∧tlP (tP M v n (.dp (mD M)) o p w)=some (.rt r)∧(r = .dn (mD M') ∨ (r = .nw []∧M'=[])):=by
  have ix:∀ (M1:List (List Int)) (w:Int),Sq n M1→(d2 kIx (d2 kIx (dVar 3) (dVar 4)) (dVar 5)) (tP M v n (.dp (mD M1)) o p w)=some (.cl (.int (gM M1 (o:Int) (p:Int)))):=fun M1 w S1=>ix2_of S1 (fa:=dVar 3) (fb:=dVar 4) (fc:=dVar 5) (t:=tP M v n (.dp (mD M1)) o p w) (r1 := .tm (mD M1)) (i:=(o:Int)) (j:=(p:Int)) rfl rfl rfl rfl (by omega) (by omega) (by omega) (by omega)
  have two:∀ (M1:List (List Int)) (w:Int),Sq n M1→dSetP 3 [(dVar 5)] (dVar 4) (d2 kIx (d2 kIx (dVar 3) (dVar 4)) (dVar 5)) (tP M v n (.dp (mD M1)) o p w)=some (.nx (tP M v n (.dp (mD (setM M1 p o (gM M1 (o:Int) (p:Int))))) o p w)):=fun M1 w S1=>setp_of (s:=3) (t:=tP M v n (.dp (mD M1)) o p w) (fi:=dVar 5) (fk:=dVar 4) (v:=gM M1 (o:Int) (p:Int)) (ri := .cl (.int (p:Int))) (rk := .cl (.int (o:Int))) (rv := .cl (.int (gM M1 (o:Int) (p:Int)))) S1 (ix M1 w S1) rfl rfl rfl rfl rfl rfl (i:=p) (j:=o) hp ho
  have one:∀ (f:DE) (x w:Int),f (tP M v n (.dp (mD M)) o p w)=some (.cl (.int x))→dSetP 3 [(dVar 4)] (dVar 5) f (tP M v n (.dp (mD M)) o p w)=some (.nx (tP M v n (.dp (mD (setM M o p x))) o p w)):=fun f x w h=>setp_of (s:=3) (t:=tP M v n (.dp (mD M)) o p w) (fi:=dVar 4) (fk:=dVar 5) (v:=x) (ri := .cl (.int (o:Int))) (rk := .cl (.int (p:Int))) (rv := .cl (.int x)) S h rfl rfl rfl rfl rfl rfl (i:=o) (j:=p) ho hp
  have hl:=S.len
  have sl:∀ x,(setM M o p x).length ≤ n:=fun x=>by rw [(setM_sq S x ho (j:=p)).len]; exact Nat.le_refl _
  have sl2:∀ x y,(setM (setM M o p x) p o y).length ≤ n:=fun x y=>by rw [(setM_sq (setM_sq S x ho (j:=p)) y hp (j:=o)).len]; exact Nat.le_refl _
  rcases (by omega:w=0 ∨ w=1 ∨ w=2 ∨ w=3 ∨ w=4 ∨ w=5 ∨ w=6 ∨ w=7 ∨ w=8 ∨ w=9) with rfl | rfl | rfl | rfl | rfl | rfl | rfl | rfl | rfl | rfl
  · have D:=one _ _ 0 (add_of (ix M 0 S) (rfl:(d2 kIx (dT1 kLst (dCons (dC (.int 1)) (dCons (d1 kNeg (dC (.int 1))) (dCons (dC (.int 7)) dNil)))) (dVar 6)) (tP M v n (.dp (mD M)) o p 0)=some (.cl (.int (1)))))
    exact ⟨_,_,sl _,(seq_nx ((ifs_t (b:=true) rfl rfl).trans D)).trans ((seq_nx (grd (b:=false) rfl rfl)).trans ((seq_nx (grd (b:=false) rfl rfl)).trans ((seq_nx (grd (b:=false) rfl rfl)).trans ((seq_nx (grd (b:=false) rfl rfl)).trans ((seq_nx (grd (b:=false) rfl rfl)).trans ((seq_nx (grd (b:=false) rfl rfl)).trans (rfl))))))), .inl rfl⟩
  · have D:=one _ _ 1 (add_of (ix M 1 S) (rfl:(d2 kIx (dT1 kLst (dCons (dC (.int 1)) (dCons (d1 kNeg (dC (.int 1))) (dCons (dC (.int 7)) dNil)))) (dVar 6)) (tP M v n (.dp (mD M)) o p 1)=some (.cl (.int (-1)))))
    exact ⟨_,_,sl _,(seq_nx ((ifs_t (b:=true) rfl rfl).trans D)).trans ((seq_nx (grd (b:=false) rfl rfl)).trans ((seq_nx (grd (b:=false) rfl rfl)).trans ((seq_nx (grd (b:=false) rfl rfl)).trans ((seq_nx (grd (b:=false) rfl rfl)).trans ((seq_nx (grd (b:=false) rfl rfl)).trans ((seq_nx (grd (b:=false) rfl rfl)).trans (rfl))))))), .inl rfl⟩
  · have D:=one _ _ 2 (add_of (ix M 2 S) (rfl:(d2 kIx (dT1 kLst (dCons (dC (.int 1)) (dCons (d1 kNeg (dC (.int 1))) (dCons (dC (.int 7)) dNil)))) (dVar 6)) (tP M v n (.dp (mD M)) o p 2)=some (.cl (.int (7)))))
    exact ⟨_,_,sl _,(seq_nx ((ifs_t (b:=true) rfl rfl).trans D)).trans ((seq_nx (grd (b:=false) rfl rfl)).trans ((seq_nx (grd (b:=false) rfl rfl)).trans ((seq_nx (grd (b:=false) rfl rfl)).trans ((seq_nx (grd (b:=false) rfl rfl)).trans ((seq_nx (grd (b:=false) rfl rfl)).trans ((seq_nx (grd (b:=false) rfl rfl)).trans (rfl))))))), .inl rfl⟩
  · have D1:=one _ _ 3 (add_of (ix M 3 S) (rfl:(d2 kIx (dT1 kLst (dCons (dC (.int 1)) (dCons (d1 kNeg (dC (.int 1))) dNil))) (d2 (kI tt2 fun i j => .int (i - j)) (dVar 6) (dC (.int 3)))) (tP M v n (.dp (mD M)) o p 3)=some (.cl (.int (1)))))
    have D:=(seq_nx D1).trans (two _ 3 (setM_sq S _ ho))
    exact ⟨_,_,sl2 _ _,(seq_nx (grd (b:=false) rfl rfl)).trans ((seq_nx ((ifs_t (b:=true) rfl rfl).trans D)).trans ((seq_nx (grd (b:=false) rfl rfl)).trans ((seq_nx (grd (b:=false) rfl rfl)).trans ((seq_nx (grd (b:=false) rfl rfl)).trans ((seq_nx (grd (b:=false) rfl rfl)).trans ((seq_nx (grd (b:=false) rfl rfl)).trans (rfl))))))), .inl rfl⟩
  · have D1:=one _ _ 4 (add_of (ix M 4 S) (rfl:(d2 kIx (dT1 kLst (dCons (dC (.int 1)) (dCons (d1 kNeg (dC (.int 1))) dNil))) (d2 (kI tt2 fun i j => .int (i - j)) (dVar 6) (dC (.int 3)))) (tP M v n (.dp (mD M)) o p 4)=some (.cl (.int (-1)))))
    have D:=(seq_nx D1).trans (two _ 4 (setM_sq S _ ho))
    exact ⟨_,_,sl2 _ _,(seq_nx (grd (b:=false) rfl rfl)).trans ((seq_nx ((ifs_t (b:=true) rfl rfl).trans D)).trans ((seq_nx (grd (b:=false) rfl rfl)).trans ((seq_nx (grd (b:=false) rfl rfl)).trans ((seq_nx (grd (b:=false) rfl rfl)).trans ((seq_nx (grd (b:=false) rfl rfl)).trans ((seq_nx (grd (b:=false) rfl rfl)).trans (rfl))))))), .inl rfl⟩
  · have D1:=one _ _ 5 (add_of (pow12 (tP M v n (.dp (mD M)) o p 5)) (mod_of (div_of (fa:=dVar 1) (fb:=dC (.int 997)) (t:=tP M v n (.dp (mD M)) o p 5) (a:=v) (b:=997) rfl rfl (by decide) (sm_of (by decide) (by decide))) (fb:=dC (.int 2)) (b:=2) rfl (by decide)))
    have D:=(seq_nx D1).trans (two _ 5 (setM_sq S _ ho))
    exact ⟨_,_,sl2 _ _,(seq_nx (grd (b:=false) rfl rfl)).trans ((seq_nx (grd (b:=false) rfl rfl)).trans ((seq_nx ((ifs_t (b:=true) rfl rfl).trans D)).trans ((seq_nx (grd (b:=false) rfl rfl)).trans ((seq_nx (grd (b:=false) rfl rfl)).trans ((seq_nx (grd (b:=false) rfl rfl)).trans ((seq_nx (grd (b:=false) rfl rfl)).trans (rfl))))))), .inl rfl⟩
  · have D:=appP_of (s:=3) (f:=dVar 4) (t:=tP M v n (.dp (mD M)) o p 6) S hn ho rfl rfl 0
    exact ⟨_,_,by rw [List.length_set]; omega,(seq_nx (grd (b:=false) rfl rfl)).trans ((seq_nx (grd (b:=false) rfl rfl)).trans ((seq_nx (grd (b:=false) rfl rfl)).trans ((seq_nx ((ifs_t (b:=true) rfl rfl).trans D)).trans ((seq_nx (grd (b:=false) rfl rfl)).trans ((seq_nx (grd (b:=false) rfl rfl)).trans ((seq_nx (grd (b:=false) rfl rfl)).trans (rfl))))))), .inl rfl⟩
  · have D:=popP_of (s:=3) (f:=dVar 4) (t:=tP M v n (.dp (mD M)) o p 7) S ho rfl rfl
    exact ⟨_,_,by rw [List.length_set]; omega,(seq_nx (grd (b:=false) rfl rfl)).trans ((seq_nx (grd (b:=false) rfl rfl)).trans ((seq_nx (grd (b:=false) rfl rfl)).trans ((seq_nx (grd (b:=false) rfl rfl)).trans ((seq_nx ((ifs_t (b:=true) rfl rfl).trans D)).trans ((seq_nx (grd (b:=false) rfl rfl)).trans ((seq_nx (grd (b:=false) rfl rfl)).trans (rfl))))))), .inl rfl⟩
  · have D:=popAt_of (s:=3) (f:=dVar 4) (t:=tP M v n (.dp (mD M)) o p 8) S hn ho rfl rfl
    exact ⟨_,_,by have:=List.length_eraseIdx_le M o; omega,(seq_nx (grd (b:=false) rfl rfl)).trans ((seq_nx (grd (b:=false) rfl rfl)).trans ((seq_nx (grd (b:=false) rfl rfl)).trans ((seq_nx (grd (b:=false) rfl rfl)).trans ((seq_nx (grd (b:=false) rfl rfl)).trans ((seq_nx ((ifs_t (b:=true) rfl rfl).trans D)).trans ((seq_nx (grd (b:=false) rfl rfl)).trans (rfl))))))), .inl rfl⟩
  · have D:aP7 (tP M v n (.dp (mD M)) o p 9)=some (.nx (tP M v n (.own []) o p 9)):=rfl
    exact ⟨[],_,Nat.zero_le _,(seq_nx (grd (b:=false) rfl rfl)).trans ((seq_nx (grd (b:=false) rfl rfl)).trans ((seq_nx (grd (b:=false) rfl rfl)).trans ((seq_nx (grd (b:=false) rfl rfl)).trans ((seq_nx (grd (b:=false) rfl rfl)).trans ((seq_nx (grd (b:=false) rfl rfl)).trans ((seq_nx ((ifs_t (b:=true) rfl rfl).trans D)).trans (rfl))))))), .inr ⟨rfl,rfl⟩⟩
theorem spoiled_is {n:Nat} {M:List (List Int)} (S:Sq n M) (n0:0 < n) (hn:n ≤ 1000) (v:Int):∃ (M':List (List Int)) (r:Ev),M'.length ≤ n∧G_law_spoiled [mD M, .int v]=some r∧(r = .dn (mD M') ∨ (r = .nw []∧M'=[])):=by
  have f1:=fm (a:=v.fdiv 10) (b:=(n:Int)) (by omega)
  have f2:=fm (a:=v.fdiv 97) (b:=(n:Int)) (by omega)
  have f3:=fm (a:=v) (b:=10) (by decide)
  obtain ⟨o,ho,eo⟩:∃ o:Nat,o < n∧(v.fdiv 10).fmod (n:Int)=(o:Int):=⟨((v.fdiv 10).fmod (n:Int)).toNat,by omega,by omega⟩
  obtain ⟨p,hp,ep⟩:∃ p:Nat,p < n∧(v.fdiv 97).fmod (n:Int)=(p:Int):=⟨((v.fdiv 97).fmod (n:Int)).toNat,by omega,by omega⟩
  obtain ⟨M',r,hl,e,hr⟩:=tail_P S hn v ho hp f3.1 f3.2
  refine ⟨M',r,hl,?_,hr⟩
  show (g_law_spoiled [.val (mD M), .val (.int v), .no, .no, .no, .no, .no]).bind outEv=_
  have ln:=lenM_of (f:=dVar 0) (t:=[.val (mD M), .val (.int v), .no, .no, .no, .no, .no]) (r := .cl (mD M)) rfl rfl
  rw [S.len] at ln
  have E1:=asg_cl (i:=2) ln (by simp)
  have E2:dAsg 3 (dCompN 1 [] (fsL (dVar 0)) (gkName 0) dTrue (dT1 kList (dCons (dVar 0) dNil))) [.val (mD M), .val (.int v), .val (.int (n:Int)), .no, .no, .no, .no]=some (.nx [.val (mD M), .val (.int v), .val (.int (n:Int)), .dp (mD M), .no, .no, .no]):=by
    unfold dAsg
    rw [kept_of (i:=0) (M:=M) (r := .cl (mD M)) rfl rfl (by rw [S.len]; omega)]
    rfl
  let t3:Th:=[.val (mD M), .val (.int v), .val (.int (n:Int)), .dp (mD M), .no, .no, .no]
  have g3:=mod_of (div_of (fa:=dVar 1) (fb:=dC (.int 10)) (t:=t3) (a:=v) (b:=10) rfl rfl (by decide) (sm_of (by decide) (by decide))) (fb:=dVar 2) (b:=(n:Int)) rfl (by omega)
  rw [eo] at g3
  have E3:=asg_cl (i:=4) g3 (by simp [t3])
  let t4:Th:=[.val (mD M), .val (.int v), .val (.int (n:Int)), .dp (mD M), .val (.int (o:Int)), .no, .no]
  have g4:=mod_of (div_of (fa:=dVar 1) (fb:=dC (.int 97)) (t:=t4) (a:=v) (b:=97) rfl rfl (by decide) (sm_of (by decide) (by decide))) (fb:=dVar 2) (b:=(n:Int)) rfl (by omega)
  rw [ep] at g4
  have E4:=asg_cl (i:=5) g4 (by simp [t4])
  let t5:Th:=[.val (mD M), .val (.int v), .val (.int (n:Int)), .dp (mD M), .val (.int (o:Int)), .val (.int (p:Int)), .no]
  have E5:=asg_cl (i:=6) (mod_of (fa:=dVar 1) (fb:=dC (.int 10)) (t:=t5) (a:=v) (b:=10) rfl rfl (by decide)) (by simp [t5])
  have fin:(g_law_spoiled [.val (mD M), .val (.int v), .no, .no, .no, .no, .no])=some (.rt r):=(seq_nx E1).trans ((seq_nx E2).trans ((seq_nx E3).trans ((seq_nx E4).trans ((seq_nx E5).trans e))))
  rw [fin]
  rcases hr with rfl | ⟨rfl,_⟩ <;> rfl
theorem map_erase_t (L:List Int):∀ k:Nat,(L.map D.int).eraseIdx k=(L.eraseIdx k).map D.int:=by
  induction L with
  | nil=>intro k; rfl
  | cons x L ih =>
    intro k
    cases k with
    | zero=>rfl
    | succ k=>simp only [List.map_cons,List.eraseIdx_cons_succ,ih k]
def bdT:DS:=(dAppPop 3 2 (d2 (kI cMod fun i j => .int (i.fmod j)) (dT1 (kCall G_law_mixed) (dCons (dVar 1) (dCons (dVar 4) dNil))) (dT1 kLen (dCons (dVar 2) dNil))))
theorem turn_T {M:List (List Int)} (c:Int) {n:Nat} {L F:List Int} (l0:0 < L.length) (hl:L.length ≤ 100) (hf:F.length ≤ 100) (iL:∀ x ∈ L,0 ≤ x∧x < (n:Int)) (iF:∀ x ∈ F,0 ≤ x∧x < (n:Int)) {k:Nat} (hk:k < 100000) (s5 s6 s7:Sl):∃ L' F':List Int,L'.length + 1=L.length∧F'.length=F.length + 1∧(∀ x ∈ L',0 ≤ x∧x < (n:Int))∧(∀ x ∈ F',0 ≤ x∧x < (n:Int))∧bdT [.val (mD M), .val (.int c), .own (L.map D.int), .own (F.map D.int), .val (.int (k:Int)),s5,s6,s7]=some (.nx [.val (mD M), .val (.int c), .own (L'.map D.int), .own (F'.map D.int), .val (.int (k:Int)),s5,s6,s7]):=by
  let t:Th:=[.val (mD M), .val (.int c), .own (L.map D.int), .own (F.map D.int), .val (.int (k:Int)),s5,s6,s7]
  obtain ⟨m,em,_⟩:=mixed_ok c k hk
  have a1:(dT1 (kCall G_law_mixed) (dCons (dVar 1) (dCons (dVar 4) dNil))) t=some (.cl (.int m)):=(t2_of (rfl:dVar 1 t=some (.cl (.int c))) (rfl:dVar 4 t=some (.cl (.int (k:Int))))).trans (callc em rfl)
  have a2:=mod_of a1 (len_of (f:=dVar 2) (t:=t) (r := .tm (.lst (L.map D.int))) (xs:=L) rfl rfl) (by omega)
  have f:=fm (a:=m) (b:=(L.length:Int)) (by omega)
  obtain ⟨q,hq⟩:∃ q:Nat,m.fmod (L.length:Int)=(q:Int):=⟨(m.fmod (L.length:Int)).toNat,by omega⟩
  rw [hq] at a2 f
  have ql:q < L.length:=by omega
  have gm:L.getD q 0 ∈ L:=by rw [List.getD_eq_getElem?_getD,List.getElem?_eq_getElem ql]; exact List.getElem_mem _
  refine ⟨L.eraseIdx q,F ++ [L.getD q 0],by rw [List.length_eraseIdx_of_lt ql]; omega,by simp,fun x hx=>iL x (List.mem_of_mem_eraseIdx hx),fun x hx=>?_,?_⟩
  · rcases List.mem_append.mp hx with y | y
    · exact iF x y
    · rw [List.mem_singleton] at y; rw [y]; exact iL _ gm
  · unfold bdT dAppPop
    rw [show (d2 (kI cMod fun i j => .int (i.fmod j)) (dT1 (kCall G_law_mixed) (dCons (dVar 1) (dCons (dVar 4) dNil))) (dT1 kLen (dCons (dVar 2) dNil))) t=_ from a2,Option.bind_some]
    unfold kAppPop
    show (if 2=3 then none else if decide (-1000000 ≤ (q:Int)∧(q:Int) ≤ 1000000∧(F.map D.int).length < 100000)=true then (ixN (L.map D.int).length (q:Int)).bind _ else none)=_
    rw [if_neg (by decide),if_pos (decide_eq_true (by simp; omega)),ix_nat _ q (by simpa using ql),Option.bind_some,get_map L q ql]
    simp only [Option.map_some,List.map_append, ← map_erase_t]
    rfl
theorem ixm_of {fa fb:DE} {t:Th} {r1:Ev} (L:List Int) (ha:fa t=some r1) (hb:fb t=some (.cl (.int (-1)))) (h:0 < L.length) (h1:r1.d = .lst (L.map D.int)):(d2 kIx fa fb) t=some (.cl (.int (L.getD (L.length - 1) 0))):=by
  rw [d2_of ha hb]
  unfold kIx
  rw [h1]
  show (atI (L.map D.int) (-1)).map _=_
  have:atI (L.map D.int) (-1)=some (.int (L.getD (L.length - 1) 0)):=by
    unfold atI ixN
    rw [List.length_map,if_neg (by decide),if_pos (by omega),Option.bind_some,show (-1 + (L.length:Int)).toNat=L.length - 1 by omega]
    exact get_map L _ (by omega)
  rw [this]
  simp [flat]
def feT:DE:=(d2 kIx (d2 kIx (dVar 1) (d2 kIx (dVar 2) (d2 (kI tt2 fun i j => .int (i - j)) (dVar 0) (dC (.int 1))))) (d2 kIx (dVar 2) (dVar 0)))
def lgT (M:List (List Int)) (F:List Int) (x:Int):Int:=gM M (if x=0 then F.getD (F.length - 1) 0 else F.getD (x - 1).toNat 0) (F.getD x.toNat 0)
theorem sum_T {n:Nat} {M:List (List Int)} (S:Sq n M) {F:List Int} (hl:F.length ≤ 1000) (iF:∀ x ∈ F,0 ≤ x∧x < (n:Int)) {f:DE} {t:Th} {cap:List Nat} {b:Bool} (hf:f t=some (.cl (.int (F.length:Int)))) (hc:capD t cap=some (b,[mD M, .lst (F.map D.int)])):(dT1 kSum (dCons (dComp 1 cap (fsR1 f) (gkName 0) dTrue feT) dNil)) t=some (.cl (.int ((natsI F.length).map (lgT M F)).sum)):=by
  refine sum_of (compRM_of (n:=F.length) (g:=lgT M F) hf (by omega) hc fun x hx=>?_) rfl
  have xr:=nats_mem hx
  have gm:∀ k:Nat,k < F.length→0 ≤ F.getD k 0∧F.getD k 0 < (n:Int):=fun k hk=>iF _ (by rw [List.getD_eq_getElem?_getD,List.getElem?_eq_getElem hk]; exact List.getElem_mem _)
  let tt:Th:=[.val (.int x), .val (mD M), .val (.lst (F.map D.int))]
  obtain ⟨k,rfl⟩:∃ k:Nat,x=(k:Int):=⟨x.toNat,by omega⟩
  have kl:k < F.length:=by omega
  have a2:=ixe_of (fa:=dVar 2) (fb:=dVar 0) (t:=tt) (r1 := .cl (.lst (F.map D.int))) (r2 := .cl (.int (k:Int))) F k rfl rfl kl rfl rfl
  have g2:=gm k kl
  have sb:=sub_of (fa:=dVar 0) (fb:=dC (.int 1)) (t:=tt) (a:=(k:Int)) (b:=1) rfl rfl
  show feT tt=some (.cl (.int (gM M (if (k:Int)=0 then F.getD (F.length - 1) 0 else F.getD ((k:Int) - 1).toNat 0) (F.getD (k:Int).toNat 0))))
  rw [Int.toNat_natCast]
  by_cases z:k=0
  · subst z
    have g1:=gm (F.length - 1) (by omega)
    have a1:=ixm_of (fa:=dVar 2) (t:=tt) (r1 := .cl (.lst (F.map D.int))) F rfl sb (by omega) rfl
    exact ix2_of S (fa:=dVar 1) (t:=tt) (r1 := .cl (mD M)) rfl rfl a1 a2 g1.1 g1.2 g2.1 g2.2
  · have g1:=gm (k - 1) (by omega)
    rw [if_neg (by omega),show ((k:Int) - 1).toNat=k - 1 by omega]
    rw [show (k:Int) - 1=((k - 1:Nat):Int) by omega] at sb
    have a1:=ixe_of (fa:=dVar 2) (t:=tt) (r1 := .cl (.lst (F.map D.int))) F (k - 1) rfl sb (by omega) rfl rfl
    exact ix2_of S (fa:=dVar 1) (t:=tt) (r1 := .cl (mD M)) rfl rfl a1 a2 g1.1 g1.2 g2.1 g2.2
theorem length_is {n:Nat} {M:List (List Int)} (S:Sq n M) {F:List Int} (hl:F.length ≤ 1000) (iF:∀ x ∈ F,0 ≤ x∧x < (n:Int)):G_length_of [mD M, .lst (F.map D.int)]=some (.cl (.int ((natsI F.length).map (lgT M F)).sum)):=by
  show (g_length_of [.val (mD M), .val (.lst (F.map D.int))]).bind outEv=_
  refine bnd (ret_of ?_)
  exact sum_T S hl iF (f:=dT1 kLen (dCons (dVar 1) dNil)) (t:=[.val (mD M), .val (.lst (F.map D.int))]) (cap:=[0,1]) (b:=true) (len_of (f:=dVar 1) (r := .cl (.lst (F.map D.int))) rfl rfl) rfl
theorem tour_is {n:Nat} {M:List (List Int)} (S:Sq n M) (hn:n ≤ 60) (c:Int):G_law_tour [mD M, .int c]=some (.cl (.bl true)):=by
  show (g_law_tour [.val (mD M), .val (.int c), .no, .no, .no, .no, .no, .no]).bind outEv=_
  have ln:∀ t:Th,dVar 0 t=some (.cl (mD M))→(dT1 kLen (dCons (dVar 0) dNil)) t=some (.cl (.int (n:Int))):=fun t h=>by
    have:=lenM_of (f:=dVar 0) (t:=t) (r := .cl (mD M)) h rfl
    rw [S.len] at this
    exact this
  have E1:=asg_nw (i:=2) (lr_of (ln [.val (mD M), .val (.int c), .no, .no, .no, .no, .no, .no] rfl) (by omega)) (by simp)
  have E2:dAsg 3 (dT1 kLst dNil) [.val (mD M), .val (.int c), .own ((natsI n).map D.int), .no, .no, .no, .no, .no]=some (.nx [.val (mD M), .val (.int c), .own ((natsI n).map D.int), .own (([]:List Int).map D.int), .no, .no, .no, .no]):=rfl
  obtain ⟨t',E3,L,F,u4,l1,l2,iL,iF,rfl⟩:=rng_K (n:=n) (by omega) (i:=4) (b:=bdT) (f:=dT1 kLen (dCons (dVar 0) dNil)) (P:=fun k t => ∃ (L F:List Int) (u4:Sl),L.length + k=n∧F.length=k∧(∀ x ∈ L,0 ≤ x∧x < (n:Int))∧(∀ x ∈ F,0 ≤ x∧x < (n:Int))∧t=[.val (mD M), .val (.int c), .own (L.map D.int), .own (F.map D.int),u4, .no, .no, .no]) (fun k hk t ⟨L,F,u4,l1,l2,iL,iF,et⟩=>by
    subst et
    obtain ⟨L',F',a1,a2,a3,a4,e⟩:=turn_T (M:=M) c (n:=n) (L:=L) (F:=F) (by omega) (by omega) (by omega) iL iF (k:=k) (by omega) .no .no .no
    exact ⟨_,_,rfl,e,L',F',_,by omega,by omega,a3,a4,rfl⟩) [.val (mD M), .val (.int c), .own ((natsI n).map D.int), .own (([]:List Int).map D.int), .no, .no, .no, .no] (ln _ rfl) ⟨natsI n,[], .no,by rw [natsI_len]; rfl,rfl,fun x hx=>nats_mem hx,(fun x hx=>absurd hx List.not_mem_nil),rfl⟩
  let t4:Th:=[.val (mD M), .val (.int c), .own (L.map D.int), .own (F.map D.int),u4, .no, .no, .no]
  let v:Int:=((natsI F.length).map (lgT M F)).sum
  have E4:=asg_cl (i:=5) (sum_T S (F:=F) (by omega) iF (f:=dT1 kLen (dCons (dVar 3) dNil)) (t:=t4) (cap:=[0,3]) (b:=false) (len_of (f:=dVar 3) (r := .tm (.lst (F.map D.int))) rfl rfl) rfl) (by simp [t4])
  let t5:Th:=[.val (mD M), .val (.int c), .own (L.map D.int), .own (F.map D.int),u4, .val (.int v), .no, .no]
  have E5:=asg_nw (i:=6) (list_of (f:=dVar 3) (t:=t5) (r := .tm (.lst (F.map D.int))) (xs:=F) rfl rfl) (by simp [t5])
  let t6:Th:=[.val (mD M), .val (.int c), .own (L.map D.int), .own (F.map D.int),u4, .val (.int v), .own (F.map D.int), .no]
  have E6:=asg_cl (i:=7) ((t2_of (rfl:dVar 0 t6=some (.cl (mD M))) (rfl:dVar 6 t6=some (.tm (.lst (F.map D.int))))).trans (callc (G:=G_length_of) (rs:=[.cl (mD M), .tm (.lst (F.map D.int))]) (length_is S (by omega) iF) rfl)) (by simp [t6])
  let t7:Th:=[.val (mD M), .val (.int c), .own (L.map D.int), .own (F.map D.int),u4, .val (.int v), .own (F.map D.int), .val (.int v)]
  have q1:=eqv_of (rfl:dVar 7 t7=some (.cl (.int v))) (rfl:dVar 5 t7=some (.cl (.int v)))
  rw [decide_eq_true rfl] at q1
  have q2:(d2 kEq (dVar 6) (dVar 3)) t7=some (.cl (.bl true)):=by
    rw [d2_of (rfl:dVar 6 t7=some (.tm (.lst (F.map D.int)))) (rfl:dVar 3 t7=some (.tm (.lst (F.map D.int))))]
    unfold kEq
    show (if eqOk 6 (.lst (F.map D.int)) (.lst (F.map D.int))=true then some (Ev.cl (.bl (eqD (.lst (F.map D.int)) (.lst (F.map D.int))))) else none)=_
    rw [if_pos (eqOk_ints 5 F),eqD_refl]
  have E7:(dAndV (dIsi "int" (dVar 7)) (dAndV (d1 kNotV (dIsi "bool" (dVar 7))) (dAndV (d2 kEq (dVar 7) (dVar 5)) (d2 kEq (dVar 6) (dVar 3))))) t7=some (.cl (.bl true)) :=
    andv_of (a:=true) (b:=true) rfl fun _=>andv_of (a:=true) (b:=true) rfl fun _=>andv_of (a:=true) (b:=true) q1 fun _=>q2
  refine bnd ?_
  exact (seq_nx E1).trans ((seq_nx E2).trans ((seq_nx E3).trans ((seq_nx E4).trans ((seq_nx E5).trans ((seq_nx E6).trans (ret_of E7))))))
def bdX:DS:=(dIfS (dOr (dBo (d2 (kI tt2 fun i j => .bl (decide (i < j))) (dVar 3) (dC (.int 10)))) (dBo (d2 kEq (dVar 7) (dC (.int 20))))) (dSeq (dAsg 8 (dT1 (kCall G_law_spoiled) (dCons (dVar 5) (dCons (dT1 (kCall G_law_mixed) (dCons (dT1 (kCall G_law_cell) (dCons (dVar 0) (dCons (dVar 7) dNil))) (dCons (dVar 7) dNil))) dNil))))
    (dSeq (dAsg 9 (dT1 (kCall G_are_roads) (dCons (dVar 8) dNil)))
    (dIfS (dOr (dNot (dTr (dIsi "bool" (dVar 9)))) (dOr (dBo (d2 kNe (dVar 9) (dT1 (kCall G_law_are) (dCons (dVar 8) dNil)))) (dNot (dTr (dT1 (kCall G_law_tour) (dCons (dVar 5) (dCons (dT1 (kCall G_law_cell) (dCons (dVar 0) (dCons (dVar 7) dNil))) dNil))))))) (dRet (dC (.bl false))) dSkip))) dSkip)
abbrev tX (ns:List Int) (s1 s2:Sl) (n:Nat) (s4:Sl) (M:List (List Int)) (s7 s8 s9:Sl):Th:=[.val (.lst (ns.map D.int)),s1,s2, .val (.int (n:Int)),s4, .dp (mD M), .dp (mD M),s7,s8,s9]
theorem turn_X (ns:List Int) (hl:ns.length ≤ 63) (s1 s2 s4:Sl) {n:Nat} {M:List (List Int)} (S:Sq n M) (n0:0 < n) (hn:n ≤ 40) {k:Nat} (hk:k < 1000) (s8 s9:Sl):∃ u8 u9,bdX (tX ns s1 s2 n s4 M (.val (.int (k:Int))) s8 s9)=some (.nx (tX ns s1 s2 n s4 M (.val (.int (k:Int))) u8 u9)):=by
  let K:Sl := .val (.int (k:Int))
  let t:Th:=tX ns s1 s2 n s4 M K s8 s9
  have cc:=or_of2 (lt_of (rfl:dVar 3 t=some (.cl (.int (n:Int)))) (rfl:dC (.int 10) t=some (.cl (.int 10)))) (eqI_of (rfl:dVar 7 t=some (.cl (.int (k:Int)))) (rfl:dC (.int 20) t=some (.cl (.int 20))))
  cases z:(decide ((n:Int) < 10) || decide ((k:Int)=20)) with
  | false=>exact ⟨s8,s9,grd cc z⟩
  | true =>
    obtain ⟨c,ec⟩:=cell_ok ns hl k (by omega)
    obtain ⟨m,em,_⟩:=mixed_ok c k (by omega)
    have a1:∀ s8 s9,(dT1 (kCall G_law_cell) (dCons (dVar 0) (dCons (dVar 7) dNil))) (tX ns s1 s2 n s4 M K s8 s9)=some (.cl (.int c)):=fun s8 s9=>(t2_of (rfl:dVar 0 (tX ns s1 s2 n s4 M K s8 s9)=some (.cl (.lst (ns.map D.int)))) (rfl:dVar 7 (tX ns s1 s2 n s4 M K s8 s9)=some (.cl (.int (k:Int))))).trans (callc ec rfl)
    have a2:(dT1 (kCall G_law_mixed) (dCons (dT1 (kCall G_law_cell) (dCons (dVar 0) (dCons (dVar 7) dNil))) (dCons (dVar 7) dNil))) t=some (.cl (.int m)):=(t2_of (a1 s8 s9) (rfl:dVar 7 t=some (.cl (.int (k:Int))))).trans (callc em rfl)
    obtain ⟨M',r,ml,es,hr⟩:=spoiled_is S n0 (by omega) m
    obtain ⟨u8,e8,hv⟩:∃ u8,dAsg 8 (dT1 (kCall G_law_spoiled) (dCons (dVar 5) (dCons (dT1 (kCall G_law_mixed) (dCons (dT1 (kCall G_law_cell) (dCons (dVar 0) (dCons (dVar 7) dNil))) (dCons (dVar 7) dNil))) dNil))) t=some (.nx (tX ns s1 s2 n s4 M K u8 s9))∧∀ s9,dVar 8 (tX ns s1 s2 n s4 M K u8 s9)=some (.tm (mD M')):=by
      have e:(dT1 (kCall G_law_spoiled) (dCons (dVar 5) (dCons (dT1 (kCall G_law_mixed) (dCons (dT1 (kCall G_law_cell) (dCons (dVar 0) (dCons (dVar 7) dNil))) (dCons (dVar 7) dNil))) dNil))) t=kCall G_law_spoiled [.tm (mD M), .cl (.int m)]:=t2_of (rfl:dVar 5 t=some (.tm (mD M))) a2
      rcases hr with rfl | ⟨rfl,rfl⟩
      · refine ⟨.dp (mD M'),?_,fun _=>rfl⟩
        unfold dAsg
        rw [e]
        unfold kCall
        rw [show G_law_spoiled ([Ev.tm (mD M), .cl (.int m)].map Ev.d)=_ from es]
        rfl
      · refine ⟨.own [],?_,fun _=>rfl⟩
        unfold dAsg
        rw [e]
        unfold kCall
        rw [show G_law_spoiled ([Ev.tm (mD M), .cl (.int m)].map Ev.d)=_ from es]
        rfl
    have b1:(dT1 (kCall G_are_roads) (dCons (dVar 8) dNil)) (tX ns s1 s2 n s4 M K u8 s9)=some (.cl (.bl (rdB M'))):=(t1_of (hv s9)).trans (callc (roads_is (by omega)) rfl)
    have E9:=asg_cl (i:=9) b1 (by simp)
    let t9:Th:=tX ns s1 s2 n s4 M K u8 (.val (.bl (rdB M')))
    have b2:(dT1 (kCall G_law_are) (dCons (dVar 8) dNil)) t9=some (.cl (.bl (rdB M'))):=(t1_of (hv _)).trans (callc ((lare_is (by omega)).trans (by rw [la_rd (by omega)])) rfl)
    have q1:dBo (d2 kNe (dVar 9) (dT1 (kCall G_law_are) (dCons (dVar 8) dNil))) t9=some false:=by
      unfold dBo
      rw [d2_of (rfl:dVar 9 t9=some (.cl (.bl (rdB M')))) b2]
      cases rdB M' <;> rfl
    have q2:(dNot (dTr (dT1 (kCall G_law_tour) (dCons (dVar 5) (dCons (dT1 (kCall G_law_cell) (dCons (dVar 0) (dCons (dVar 7) dNil))) dNil))))) t9=some false:=by
      unfold dNot dTr
      rw [(t2_of (rfl:dVar 5 t9=some (.tm (mD M))) (a1 u8 _)).trans (callc (G:=G_law_tour) (rs:=[.tm (mD M), .cl (.int c)]) (tour_is S (by omega) c) rfl)]
      rfl
    have q0:(dNot (dTr (dIsi "bool" (dVar 9)))) t9=some false:=rfl
    have E10:=grd (g:=dRet (dC (.bl false))) (or_of2 q0 (or_of2 q1 q2)) rfl
    exact ⟨u8,_,(ifs_t cc z).trans ((seq_nx e8).trans ((seq_nx E9).trans E10))⟩
theorem nev_of {fa fb:DE} {t:Th} {a b:Int} (h1:fa t=some (.cl (.int a))) (h2:fb t=some (.cl (.int b))):(d2 kNe fa fb) t=some (.cl (.bl (!decide (a=b)))):=by
  rw [d2_of h1 h2]
  have:kNe (.cl (.int a)) (.cl (.int b))=some (.cl (.bl (!eqD (.int a) (.int b)))):=rfl
  rw [this,eqD_int]
def alR (n:Nat) (m:Int) (i:Int):List Int:=(natsI n).map fun j=>m * (if !decide (i=j) then 1 else 0)
def alM (n:Nat) (m:Int):List (List Int):=(natsI n).map (alR n m)
def feAl:DE:=(dComp 1 [1,0] (fsR1 (dVar 2)) (gkName 0) dTrue (d2 (kOr (kI cMul fun i j => .int (i * j)) kRep) (dVar 1) (dT1 kIntB (dCons (d2 kNe (dVar 2) (dVar 0)) dNil))))
theorem feAl_is {n:Nat} (hn:n ≤ 50000) {m:Int} (hm:sm m=true) (i:Int):feAl [.val (.int i), .val (.int m), .val (.int (n:Int))]=some (.nw ((alR n m i).map D.int)) :=
  compRM_of (n:=n) (g:=fun j=>m * (if !decide (i=j) then 1 else 0)) (c:=[.int m, .int i]) (b:=true) rfl hn rfl (fun x _=>by
    have q:=intB_of (nev_of (fa:=dVar 2) (fb:=dVar 0) (t:=[.val (.int x), .val (.int m), .val (.int i)]) (a:=i) (b:=x) rfl rfl)
    refine mul_of (a:=m) rfl q hm ?_
    split <;> decide +kernel)
theorem compN_al {n:Nat} (hn:n ≤ 50000) {m:Int} (hm:sm m=true):∀ (l:List Int) (s:Sl),compN (gkName 0) dTrue feAl (l.map D.int) [s, .val (.int m), .val (.int (n:Int))]=some ((l.map (alR n m)).map rwD)
  | [],s=>rfl
  | i :: l,s=>by
    have e0:gkName 0 (.int i) [s, .val (.int m), .val (.int (n:Int))]=some [.val (.int i), .val (.int m), .val (.int (n:Int))]:=rfl
    have e1:=feAl_is hn hm i
    have e2:toDn (.nw ((alR n m i).map D.int))=some (rwD (alR n m i)):=by simp only [toDn,flats_ints,if_true]; rfl
    have ih:=compN_al hn hm l (.val (.int i))
    simp only [List.map_cons,compN,e0,Option.bind_some,dTrue,if_true,e1,e2,ih,Option.map_some]
theorem al_of {t:Th} {n:Nat} (hn:n ≤ 50000) {m:Int} (hm:sm m=true) (h2:t[2]?=some (.val (.int m))) (h3:t[3]?=some (.val (.int (n:Int)))):(dCompN 1 [2,3] (fsR1 (dVar 3)) (gkName 0) dTrue feAl) t=some (.dn (mD (alM n m))):=by
  have v:dVar 3 t=some (.cl (.int (n:Int))):=by unfold dVar; rw [h3]
  have c:capD t [2,3]=some (true,[.int m, .int (n:Int)]):=by
    simp only [capD,h2,h3,Option.bind_some]
  unfold dCompN
  rw [rng_is v hn,c]
  simp only [Option.bind_some]
  rw [if_pos (by rw [List.length_map,natsI_len]; exact hn)]
  show (compN (gkName 0) dTrue feAl ((natsI n).map D.int) [.no, .val (.int m), .val (.int (n:Int))]).map _=_
  rw [compN_al hn hm]
  rfl
theorem al_sq (n:Nat) (m:Int):Sq n (alM n m):=by
  refine ⟨by unfold alM; rw [List.length_map,natsI_len],fun r hr=>?_⟩
  obtain ⟨i,_,rfl⟩:=List.mem_map.mp hr
  unfold alR
  rw [List.length_map,natsI_len]
theorem nats_get {n i:Nat} (h:i < n):(natsI n)[i]?=some (i:Int):=by
  unfold natsI
  simp [h]
theorem al_get {n:Nat} (m:Int) {i j:Nat} (hi:i < n) (hj:j < n):eM (alM n m) i j=if i=j then 0 else m:=by
  show ((alM n m).getD i []).getD j 0=_
  unfold alM
  rw [List.getD_eq_getElem?_getD,List.getD_eq_getElem?_getD,List.getElem?_map,nats_get hi]
  show ((alR n m (i:Int))[j]?).getD 0=_
  unfold alR
  rw [List.getElem?_map,nats_get hj]
  show m * (if (!decide ((i:Int)=(j:Int)))=true then 1 else 0)=_
  by_cases z:i=j
  · subst z; simp
  · rw [if_neg z,if_pos (by simp; omega)]; omega
theorem al_rd {n:Nat} {m:Int} (n0:40 ≤ n) (hn:n ≤ 41) (m0:0 ≤ m) (m1:m < 2147483563):rdB (alM n m)=decide ((n:Int)=40):=by
  by_cases z:n=40
  · subst z
    rw [decide_eq_true (by decide)]
    refine (rd_iff (al_sq 40 m)).mpr ⟨⟨by decide,by decide⟩,fun i j hi hj=>?_,fun i hi=>?_,fun i j hi hj=>?_,fun t i j ht hi hj=>?_⟩
    · rw [al_get m hi hj]; split <;> omega
    · rw [al_get m hi hi,if_pos rfl]
    · rw [al_get m hi hj,al_get m hj hi]; split <;> split <;> omega
    · rw [al_get m hi hj,al_get m hi ht,al_get m ht hj]; split <;> split <;> split <;> omega
  · rw [decide_eq_false (by omega)]
    unfold rdB szB
    rw [(al_sq n m).len,decide_eq_false (by omega : ¬ ((n:Int) ≤ 40))]
    simp
theorem k2_of {f:Int→Int→Int} {fa fb:DE} {t:Th} {a b:Int} (h1:fa t=some (.cl (.int a))) (h2:fb t=some (.cl (.int b))):(dT1 (k2I f) (dCons fa (dCons fb dNil))) t=some (.cl (.int (f a b))):=(t2_of h1 h2).trans rfl
theorem rng2n_of {k0:D→Th→Option Th} {b:DS} {t:Th} {f f':DE} {lo n:Int} {k:Nat} (h1:f t=some (.cl (.int lo))) (h2:f' t=some (.cl (.int n))) (hk:(n - lo).toNat=k) (hb:(bigI n && bigI lo)=true):dRng2 k0 f f' b t=forD k0 b (rngD lo k) t:=by
  unfold dRng2
  rw [h1,h2]
  show (if bigI n && bigI lo then forD k0 b (rngD lo (n - lo).toNat) t else none)=_
  rw [if_pos hb,hk]
theorem isnt_of {f:DE} {t:Th} {b c:Bool} (h:f t=some (.cl (.bl b))) (hb:b=c):dBo (d2 kIsntB f (dC (.bl c))) t=some false:=by
  subst hb
  unfold dBo
  rw [d2_of h (rfl:dC (.bl b) t=some (.cl (.bl b)))]
  cases b <;> rfl
def fr2:DE:=dT1 kLst (dCons (dT1 kLst (dCons (dC (.int 0)) (dCons (dVar 1) dNil))) (dCons (dT1 kLst (dCons (dVar 1) (dCons (dC (.int 0)) dNil))) dNil))
def fr3:DE:=dT1 kLst (dCons (dT1 kLst (dCons (dC (.int 0)) (dCons (d2 (kOr (kI tt2 fun i j => .int (i + j)) kCat) (dVar 1) (dC (.int 1))) dNil))) (dCons (dT1 kLst (dCons (d2 (kOr (kI tt2 fun i j => .int (i + j)) kCat) (dVar 1) (dC (.int 1))) (dCons (dC (.int 0)) dNil))) dNil))
theorem fr2_is (t:Th) (h:t[1]?=some (.val (.int 1000000000000))):fr2 t=some (.nw [rwD [0,1000000000000],rwD [1000000000000,0]]):=by
  have v:dVar 1 t=some (.cl (.int 1000000000000)):=by unfold dVar; rw [h]
  have a:(dT1 kLst (dCons (dC (.int 0)) (dCons (dVar 1) dNil))) t=some (.nw [.int 0, .int 1000000000000]):=(t2_of (rfl:dC (.int 0) t=some (.cl (.int 0))) v).trans rfl
  have b:(dT1 kLst (dCons (dVar 1) (dCons (dC (.int 0)) dNil))) t=some (.nw [.int 1000000000000, .int 0]):=(t2_of v (rfl:dC (.int 0) t=some (.cl (.int 0)))).trans rfl
  exact (t2_of a b).trans rfl
theorem fr3_is (t:Th) (h:t[1]?=some (.val (.int 1000000000000))):fr3 t=some (.nw [rwD [0,1000000000001],rwD [1000000000001,0]]):=by
  have v:dVar 1 t=some (.cl (.int 1000000000000)):=by unfold dVar; rw [h]
  have w:=add_of v (rfl:dC (.int 1) t=some (.cl (.int 1)))
  have a:(dT1 kLst (dCons (dC (.int 0)) (dCons (d2 (kOr (kI tt2 fun i j => .int (i + j)) kCat) (dVar 1) (dC (.int 1))) dNil))) t=some (.nw [.int 0, .int 1000000000001]):=(t2_of (rfl:dC (.int 0) t=some (.cl (.int 0))) w).trans rfl
  have b:(dT1 kLst (dCons (d2 (kOr (kI tt2 fun i j => .int (i + j)) kCat) (dVar 1) (dC (.int 1))) (dCons (dC (.int 0)) dNil))) t=some (.nw [.int 1000000000001, .int 0]):=(t2_of w (rfl:dC (.int 0) t=some (.cl (.int 0)))).trans rfl
  exact (t2_of a b).trans rfl
theorem law_true (ns:List Int) (hl:ns.length ≤ 63) (hbd:∀ n ∈ ns,n.natAbs < bndS):G_law [.lst (ns.map D.int)]=some (.cl (.bl true)):=by
  let N:Sl := .val (.lst (ns.map D.int))
  let t0:Th:=[N, .no, .no, .no, .no, .no, .no, .no, .no, .no]
  let F1:Sl := .val (.int 1000000000000)
  have E1:=asg_cl (i:=1) (pow12 t0) (by simp [t0])
  let t1:Th:=[N,F1, .no, .no, .no, .no, .no, .no, .no, .no]
  have a1:(dT1 (kCall G_are_roads) (dCons fr2 dNil)) t1=some (.cl (.bl true)):=(t1_of (fr2_is t1 rfl)).trans (callc ((roads_is (M:=[[0,1000000000000],[1000000000000,0]]) (by decide)).trans (congrArg (fun b=>some (Ev.cl (.bl b))) (by decide +kernel:rdB [[0,1000000000000],[1000000000000,0]]=true))) rfl)
  have a2:(dT1 (kCall G_are_roads) (dCons fr3 dNil)) t1=some (.cl (.bl false)):=(t1_of (fr3_is t1 rfl)).trans (callc ((roads_is (M:=[[0,1000000000001],[1000000000001,0]]) (by decide)).trans (congrArg (fun b=>some (Ev.cl (.bl b))) (by decide +kernel:rdB [[0,1000000000001],[1000000000001,0]]=false))) rfl)
  have E2:=grd (g:=dRet (dC (.bl false))) (or_of2 (isnt_of a1 rfl) (isnt_of a2 rfl)) rfl
  obtain ⟨c0,ec0⟩:=cell_ok ns hl 0 (by decide)
  have e0:(dT1 (kCall G_law_cell) (dCons (dVar 0) (dCons (dC (.int 0)) dNil))) t1=some (.cl (.int c0)):=(t2_of (rfl:dVar 0 t1=some (.cl (.lst (ns.map D.int)))) (rfl:dC (.int 0) t1=some (.cl (.int 0)))).trans (callc ec0 rfl)
  obtain ⟨m,em,m0,m1⟩:=mixed_lt c0 1 (by decide)
  have E3:=asg_cl (i:=2) ((t2_of e0 (rfl:dC (.int 1) t1=some (.cl (.int 1)))).trans (callc em rfl)) (by simp [t1])
  let t2:Th:=[N,F1, .val (.int m), .no, .no, .no, .no, .no, .no, .no]
  have cc:=eqI_of (mod_of (div_of (fa:=dVar 2) (fb:=dC (.int 9)) (t:=t2) (a:=m) (b:=9) rfl rfl (by decide) (sm_of (by decide) (by decide))) (fb:=dC (.int 16)) (b:=16) rfl (by decide)) (fb:=dC (.int 5)) (b:=5) rfl
  by_cases y:(m.fdiv 9).fmod 16=5
  · have f:=fm (a:=m.fdiv 144) (b:=2) (by decide)
    obtain ⟨n,n0,n1,en⟩:∃ n:Nat,40 ≤ n∧n ≤ 41∧40 + (m.fdiv 144).fmod 2=(n:Int):=⟨(40 + (m.fdiv 144).fmod 2).toNat,by omega,by omega,by omega⟩
    have x1:=add_of (fa:=dC (.int 40)) (t:=t2) (a:=40) rfl (mod_of (div_of (fa:=dVar 2) (fb:=dC (.int 144)) (t:=t2) (a:=m) (b:=144) rfl rfl (by decide) (sm_of (by decide) (by decide))) (fb:=dC (.int 2)) (b:=2) rfl (by decide))
    rw [en] at x1
    have X1:=asg_cl (i:=3) x1 (by simp [t2])
    let t3:Th:=[N,F1, .val (.int m), .val (.int (n:Int)), .no, .no, .no, .no, .no, .no]
    have X2:dAsg 4 (dCompN 1 [2,3] (fsR1 (dVar 3)) (gkName 0) dTrue feAl) t3=some (.nx [N,F1, .val (.int m), .val (.int (n:Int)), .dp (mD (alM n m)), .no, .no, .no, .no, .no]):=by
      unfold dAsg
      rw [al_of (n:=n) (by omega) (sm_of (by omega) (by omega)) (t:=t3) rfl rfl]
      rfl
    let t4:Th:=[N,F1, .val (.int m), .val (.int (n:Int)), .dp (mD (alM n m)), .no, .no, .no, .no, .no]
    have x3:(dT1 (kCall G_are_roads) (dCons (dVar 4) dNil)) t4=some (.cl (.bl (decide ((n:Int)=40)))):=(t1_of (rfl:dVar 4 t4=some (.tm (mD (alM n m))))).trans (callc ((roads_is (M:=alM n m) (by rw [(al_sq n m).len]; omega)).trans (by rw [al_rd n0 n1 m0 m1])) rfl)
    have x4:=eqv_of (rfl:dVar 3 t4=some (.cl (.int (n:Int)))) (rfl:dC (.int 40) t4=some (.cl (.int 40)))
    have X3:dRet (d2 kEq (dT1 (kCall G_are_roads) (dCons (dVar 4) dNil)) (d2 kEq (dVar 3) (dC (.int 40)))) t4=some (.rt (.cl (.bl true))):=by
      refine ret_of ?_
      rw [d2_of x3 x4]
      cases decide ((n:Int)=40) <;> rfl
    show (dSeq _ (dSeq (dIfS (dOr (dBo (d2 kIsntB (dT1 (kCall G_are_roads) (dCons fr2 dNil)) _)) (dBo (d2 kIsntB (dT1 (kCall G_are_roads) (dCons fr3 dNil)) _))) _ _) (dSeq _ (dSeq (dIfS _ (dSeq _ (dSeq (dAsg 4 (dCompN 1 [2,3] (fsR1 (dVar 3)) (gkName 0) dTrue feAl)) _)) _) _))) t0).bind outEv=_
    refine bnd ?_
    refine (seq_nx E1).trans ?_
    refine (seq_nx E2).trans ?_
    refine (seq_nx E3).trans ?_
    refine seq_rt ((ifs_t cc (decide_eq_true y)).trans ?_)
    exact (seq_nx X1).trans ((seq_nx X2).trans X3)
  have E4:=fun g:DS=>grd (g:=g) cc (decide_eq_false y)
  have E5:=asg_cl (i:=3) (add_of (fa:=dC (.int 1)) (t:=t2) (a:=1) rfl (mod_of (fa:=dVar 2) (fb:=dC (.int 9)) (t:=t2) (a:=m) (b:=9) rfl rfl (by decide))) (by simp [t2])
  let t3:Th:=[N,F1, .val (.int m), .val (.int (1 + m.fmod 9)), .no, .no, .no, .no, .no, .no]
  have cd:=eqI_of (mod_of (div_of (fa:=dVar 2) (fb:=dC (.int 9)) (t:=t3) (a:=m) (b:=9) rfl rfl (by decide) (sm_of (by decide) (by decide))) (fb:=dC (.int 8)) (b:=8) rfl (by decide)) (fb:=dC (.int 3)) (b:=3) rfl
  obtain ⟨n,n0,n1,E6⟩:∃ n:Nat,0 < n∧n ≤ 20∧(dIfS (dBo (d2 kEq (d2 (kI cMod fun i j => .int (i.fmod j)) (d2 (kI cDiv fun i j => .int (i.fdiv j)) (dVar 2) (dC (.int 9))) (dC (.int 8))) (dC (.int 3)))) (dAsg 3 (d2 (kOr (kI tt2 fun i j => .int (i + j)) kCat) (dC (.int 10)) (d2 (kI cMod fun i j => .int (i.fmod j)) (d2 (kI cDiv fun i j => .int (i.fdiv j)) (dVar 2) (dC (.int 72))) (dC (.int 11))))) dSkip) t3=some (.nx [N,F1, .val (.int m), .val (.int (n:Int)), .no, .no, .no, .no, .no, .no]):=by
    by_cases z:(m.fdiv 9).fmod 8=3
    · have f:=fm (a:=m.fdiv 72) (b:=11) (by decide)
      refine ⟨(10 + (m.fdiv 72).fmod 11).toNat,by omega,by omega,(ifs_t cd (decide_eq_true z)).trans ?_⟩
      refine (asg_cl (i:=3) (add_of (fa:=dC (.int 10)) (t:=t3) (a:=10) rfl (mod_of (div_of (fa:=dVar 2) (fb:=dC (.int 72)) (t:=t3) (a:=m) (b:=72) rfl rfl (by decide) (sm_of (by decide) (by decide))) (fb:=dC (.int 11)) (b:=11) rfl (by decide))) (by simp [t3])).trans ?_
      rw [Int.toNat_of_nonneg (by omega)]
      rfl
    · have f:=fm (a:=m) (b:=9) (by decide)
      refine ⟨(1 + m.fmod 9).toNat,by omega,by omega,(grd cd (decide_eq_false z)).trans ?_⟩
      rw [Int.toNat_of_nonneg (by omega)]
  obtain ⟨M,R,er⟩:=roads_of ns hl 1 (by decide) n0 (by omega)
  have S:=R.1.sq
  let B:Sl := .val (.int (n:Int))
  let S2:Sl := .val (.int m)
  have E7:dAsg 5 (dT1 (kCall G_law_roads) (dCons (dVar 0) (dCons (dC (.int 1)) (dCons (dVar 3) dNil)))) [N,F1,S2,B, .no, .no, .no, .no, .no, .no]=some (.nx [N,F1,S2,B, .no, .dp (mD M), .no, .no, .no, .no]):=by
    unfold dAsg
    rw [(t3_of (rfl:dVar 0 _=some (.cl (.lst (ns.map D.int)))) (rfl:dC (.int 1) _=some (.cl (.int 1))) (rfl:dVar 3 _=some (.cl (.int (n:Int)))):(dT1 (kCall G_law_roads) (dCons (dVar 0) (dCons (dC (.int 1)) (dCons (dVar 3) dNil)))) [N,F1,S2,B, .no, .no, .no, .no, .no, .no]=_)]
    unfold kCall
    rw [show G_law_roads ([Ev.cl (.lst (ns.map D.int)), .cl (.int 1), .cl (.int (n:Int))].map Ev.d)=_ from er]
    rfl
  let t5:Th:=[N,F1,S2,B, .no, .dp (mD M), .no, .no, .no, .no]
  have E8:dAsg 6 (dCompN 1 [] (fsL (dVar 5)) (gkName 0) dTrue (dT1 kList (dCons (dVar 0) dNil))) t5=some (.nx (tX ns F1 S2 n .no M .no .no .no)):=by
    unfold dAsg
    rw [kept_of (t:=t5) (i:=5) (M:=M) (r := .tm (mD M)) rfl rfl (by rw [S.len]; omega)]
    rfl
  let t6:Th:=tX ns F1 S2 n .no M .no .no .no
  have b1:(dT1 (kCall G_are_roads) (dCons (dVar 5) dNil)) t6=some (.cl (.bl true)):=(t1_of (rfl:dVar 5 t6=some (.tm (mD M)))).trans (callc ((roads_is (by rw [S.len]; omega)).trans (by rw [rd_roads (by omega) (by omega) R])) rfl)
  obtain ⟨c2,ec2⟩:=cell_ok ns hl 20 (by decide)
  have b2:(dT1 (kCall G_law_cell) (dCons (dVar 0) (dCons (dC (.int 20)) dNil))) t6=some (.cl (.int c2)):=(t2_of (rfl:dVar 0 t6=some (.cl (.lst (ns.map D.int)))) (rfl:dC (.int 20) t6=some (.cl (.int 20)))).trans (callc ec2 rfl)
  have b3:(dNot (dTr (dT1 (kCall G_law_tour) (dCons (dVar 5) (dCons (dT1 (kCall G_law_cell) (dCons (dVar 0) (dCons (dC (.int 20)) dNil))) dNil))))) t6=some false:=by
    unfold dNot dTr
    rw [(t2_of (rfl:dVar 5 t6=some (.tm (mD M))) b2).trans (callc (G:=G_law_tour) (rs:=[.tm (mD M), .cl (.int c2)]) (tour_is S (by omega) c2) rfl)]
    rfl
  have E9:=grd (g:=dRet (dC (.bl false))) (or_of2 (isnt_of b1 rfl) b3) rfl
  have i2:(dT1 kLen (dCons (dVar 0) dNil)) t6=some (.cl (.int (ns.length:Int))):=len_of (f:=dVar 0) (t:=t6) (r := .cl (.lst (ns.map D.int))) (xs:=ns) rfl rfl
  obtain ⟨q,q1,i3⟩:∃ q:Nat,q ≤ 63∧(dT1 (k2I fun i j=>if j > i then j else i) (dCons (dC (.int 21)) (dCons (dT1 (k2I fun i j=>if j < i then j else i) (dCons (dT1 kLen (dCons (dVar 0) dNil)) (dCons (dC (.int 63)) dNil))) dNil))) t6=some (.cl (.int (q:Int))):=by
    have j1:=k2_of (f:=fun i j=>if j < i then j else i) i2 (rfl:dC (.int 63) t6=some (.cl (.int 63)))
    have j2:=k2_of (f:=fun i j=>if j > i then j else i) (rfl:dC (.int 21) t6=some (.cl (.int 21))) j1
    rw [if_neg (by omega : ¬ (63:Int) < (ns.length:Int))] at j2
    by_cases z:(ns.length:Int) > 21
    · rw [if_pos z] at j2; exact ⟨_,hl,j2⟩
    · rw [if_neg z] at j2; exact ⟨21,by decide,j2⟩
  obtain ⟨t7,e7,u7,u8,u9,rfl⟩:=for_P (k:=gkName 7) (b:=bdX) (P:=fun t => ∃ u7 u8 u9,t=tX ns F1 S2 n .no M u7 u8 u9) (rngD 20 ((q:Int) - 20).toNat) (fun d hd t ⟨u7,u8,u9,et⟩=>by
    subst et
    obtain ⟨i,hi,rfl⟩:=List.mem_map.mp hd
    have h1:=List.mem_range.mp hi
    obtain ⟨k,ek⟩:∃ k:Nat,20 + (i:Int)=(k:Int):=⟨20 + i,by omega⟩
    rw [ek]
    obtain ⟨v8,v9,e⟩:=turn_X ns hl F1 S2 .no S n0 (by omega) (k:=k) (by omega) u8 u9
    exact ⟨_,_,rfl,e,_,v8,v9,rfl⟩) t6 ⟨.no, .no, .no,rfl⟩
  have E10:=(rng2n_of (t:=t6) (k0:=gkName 7) (b:=bdX) (rfl:dC (.int 20) t6=some (.cl (.int 20))) i3 rfl (by rw [Bool.and_eq_true]; exact ⟨by unfold bigI; simp; omega,by decide⟩)).trans e7
  have E11:dRet (d2 kEq (dVar 5) (dVar 6)) (tX ns F1 S2 n .no M u7 u8 u9)=some (.rt (.cl (.bl true))):=by
    refine ret_of ?_
    rw [d2_of (rfl:dVar 5 (tX ns F1 S2 n .no M u7 u8 u9)=some (.tm (mD M))) (rfl:dVar 6 (tX ns F1 S2 n .no M u7 u8 u9)=some (.tm (mD M)))]
    exact eq_mD M rfl rfl
  show (dSeq _ (dSeq (dIfS (dOr (dBo (d2 kIsntB (dT1 (kCall G_are_roads) (dCons fr2 dNil)) _)) (dBo (d2 kIsntB (dT1 (kCall G_are_roads) (dCons fr3 dNil)) _))) _ _) (dSeq _ (dSeq _ (dSeq _ (dSeq _ (dSeq _ (dSeq _ (dSeq _ (dSeq (dRng2 _ _ _ bdX) _))))))))) t0).bind outEv=_
  refine bnd ?_
  refine (seq_nx E1).trans ?_
  refine (seq_nx E2).trans ?_
  refine (seq_nx E3).trans ?_
  refine (seq_nx (E4 _)).trans ?_
  refine (seq_nx E5).trans ?_
  refine (seq_nx E6).trans ?_
  refine (seq_nx E7).trans ?_
  refine (seq_nx E8).trans ?_
  refine (seq_nx E9).trans ?_
  refine (seq_nx E10).trans ?_
  exact E11
def spLaw (K:PySem.W.Frag):Sp:=spD K G_law
theorem all_mk {P:Program} {w:World} {K:PySem.W.Frag} {h:Heap} {mg:Str→Option Value} {fa:Addr} (X:K.In h) (G:h.Ns mainGlobals mg) (hfa:mg "law"=some (.ref fa)) {f0:Addr} {od0 an0:Option Addr} {sl0:Array (Option Value)} {oc0 kV0 dc0 pm0 cd0 ct0:Value} {f1:Addr} {od1 an1:Option Addr} {sl1:Array (Option Value)} {oc1 kV1 dc1 pm1 cd1 ct1:Value} {f2:Addr} {od2 an2:Option Addr} {sl2:Array (Option Value)} {oc2 kV2 dc2 pm2 cd2 ct2:Value} {f3:Addr} {od3 an3:Option Addr} {sl3:Array (Option Value)} {oc3 kV3 dc3 pm3 cd3 ct3:Value} {f4:Addr} {od4 an4:Option Addr} {sl4:Array (Option Value)} {oc4 kV4 dc4 pm4 cd4 ct4:Value} {f5:Addr} {od5 an5:Option Addr} {sl5:Array (Option Value)} {oc5 kV5 dc5 pm5 cd5 ct5:Value} {f6:Addr} {od6 an6:Option Addr} {sl6:Array (Option Value)} {oc6 kV6 dc6 pm6 cd6 ct6:Value} {f7:Addr} {od7 an7:Option Addr} {sl7:Array (Option Value)} {oc7 kV7 dc7 pm7 cd7 ct7:Value} {f8:Addr} {od8 an8:Option Addr} {sl8:Array (Option Value)} {oc8 kV8 dc8 pm8 cd8 ct8:Value} {f9:Addr} {od9 an9:Option Addr} {sl9:Array (Option Value)} {oc9 kV9 dc9 pm9 cd9 ct9:Value} {f10:Addr} {od10 an10:Option Addr} {sl10:Array (Option Value)} {oc10 kV10 dc10 pm10 cd10 ct10:Value} {f11:Addr} {od11 an11:Option Addr} {sl11:Array (Option Value)} {oc11 kV11 dc11 pm11 cd11 ct11:Value} {f12:Addr} {od12 an12:Option Addr} {sl12:Array (Option Value)} {oc12 kV12 dc12 pm12 cd12 ct12:Value} {f13:Addr} {od13 an13:Option Addr} {sl13:Array (Option Value)} {oc13 kV13 dc13 pm13 cd13 ct13:Value}
    (a0:PySem.W.nsIn K mainGlobals "is_square"=some (some (.ref f0))) (l0:K.lookup f0=some ⟨oc0,od0, .func (PySem.W.fnOf "is_square" "is_square" (defArgs s_is_square) (defBody s_is_square) (defScope s_is_square) .none kV0 dc0 pm0 an0 cd0 ct0),sl0⟩) (c0:PySem.W.codeIn K cd0 "is_square"=true) (k0:PySem.W.keepIn K (.ref f0)=true)
    (a1:PySem.W.nsIn K mainGlobals "are_lengths"=some (some (.ref f1))) (l1:K.lookup f1=some ⟨oc1,od1, .func (PySem.W.fnOf "are_lengths" "are_lengths" (defArgs s_are_lengths) (defBody s_are_lengths) (defScope s_are_lengths) .none kV1 dc1 pm1 an1 cd1 ct1),sl1⟩) (c1:PySem.W.codeIn K cd1 "are_lengths"=true) (k1:PySem.W.keepIn K (.ref f1)=true)
    (a2:PySem.W.nsIn K mainGlobals "are_alike_both_ways"=some (some (.ref f2))) (l2:K.lookup f2=some ⟨oc2,od2, .func (PySem.W.fnOf "are_alike_both_ways" "are_alike_both_ways" (defArgs s_are_alike_both_ways) (defBody s_are_alike_both_ways) (defScope s_are_alike_both_ways) .none kV2 dc2 pm2 an2 cd2 ct2),sl2⟩) (c2:PySem.W.codeIn K cd2 "are_alike_both_ways"=true) (k2:PySem.W.keepIn K (.ref f2)=true)
    (a3:PySem.W.nsIn K mainGlobals "are_straight"=some (some (.ref f3))) (l3:K.lookup f3=some ⟨oc3,od3, .func (PySem.W.fnOf "are_straight" "are_straight" (defArgs s_are_straight) (defBody s_are_straight) (defScope s_are_straight) .none kV3 dc3 pm3 an3 cd3 ct3),sl3⟩) (c3:PySem.W.codeIn K cd3 "are_straight"=true) (k3:PySem.W.keepIn K (.ref f3)=true)
    (a4:PySem.W.nsIn K mainGlobals "are_roads"=some (some (.ref f4))) (l4:K.lookup f4=some ⟨oc4,od4, .func (PySem.W.fnOf "are_roads" "are_roads" (defArgs s_are_roads) (defBody s_are_roads) (defScope s_are_roads) .none kV4 dc4 pm4 an4 cd4 ct4),sl4⟩) (c4:PySem.W.codeIn K cd4 "are_roads"=true) (k4:PySem.W.keepIn K (.ref f4)=true)
    (a5:PySem.W.nsIn K mainGlobals "length_of"=some (some (.ref f5))) (l5:K.lookup f5=some ⟨oc5,od5, .func (PySem.W.fnOf "length_of" "length_of" (defArgs s_length_of) (defBody s_length_of) (defScope s_length_of) .none kV5 dc5 pm5 an5 cd5 ct5),sl5⟩) (c5:PySem.W.codeIn K cd5 "length_of"=true) (k5:PySem.W.keepIn K (.ref f5)=true)
    (a6:PySem.W.nsIn K mainGlobals "_law_cell"=some (some (.ref f6))) (l6:K.lookup f6=some ⟨oc6,od6, .func (PySem.W.fnOf "_law_cell" "_law_cell" (defArgs s_law_cell) (defBody s_law_cell) (defScope s_law_cell) .none kV6 dc6 pm6 an6 cd6 ct6),sl6⟩) (c6:PySem.W.codeIn K cd6 "_law_cell"=true) (k6:PySem.W.keepIn K (.ref f6)=true)
    (a7:PySem.W.nsIn K mainGlobals "_law_mixed"=some (some (.ref f7))) (l7:K.lookup f7=some ⟨oc7,od7, .func (PySem.W.fnOf "_law_mixed" "_law_mixed" (defArgs s_law_mixed) (defBody s_law_mixed) (defScope s_law_mixed) .none kV7 dc7 pm7 an7 cd7 ct7),sl7⟩) (c7:PySem.W.codeIn K cd7 "_law_mixed"=true) (k7:PySem.W.keepIn K (.ref f7)=true)
    (a8:PySem.W.nsIn K mainGlobals "_law_row"=some (some (.ref f8))) (l8:K.lookup f8=some ⟨oc8,od8, .func (PySem.W.fnOf "_law_row" "_law_row" (defArgs s_law_row) (defBody s_law_row) (defScope s_law_row) .none kV8 dc8 pm8 an8 cd8 ct8),sl8⟩) (c8:PySem.W.codeIn K cd8 "_law_row"=true) (k8:PySem.W.keepIn K (.ref f8)=true)
    (a9:PySem.W.nsIn K mainGlobals "_law_roads"=some (some (.ref f9))) (l9:K.lookup f9=some ⟨oc9,od9, .func (PySem.W.fnOf "_law_roads" "_law_roads" (defArgs s_law_roads) (defBody s_law_roads) (defScope s_law_roads) .none kV9 dc9 pm9 an9 cd9 ct9),sl9⟩) (c9:PySem.W.codeIn K cd9 "_law_roads"=true) (k9:PySem.W.keepIn K (.ref f9)=true)
    (a10:PySem.W.nsIn K mainGlobals "_law_are"=some (some (.ref f10))) (l10:K.lookup f10=some ⟨oc10,od10, .func (PySem.W.fnOf "_law_are" "_law_are" (defArgs s_law_are) (defBody s_law_are) (defScope s_law_are) .none kV10 dc10 pm10 an10 cd10 ct10),sl10⟩) (c10:PySem.W.codeIn K cd10 "_law_are"=true) (k10:PySem.W.keepIn K (.ref f10)=true)
    (a11:PySem.W.nsIn K mainGlobals "_law_spoiled"=some (some (.ref f11))) (l11:K.lookup f11=some ⟨oc11,od11, .func (PySem.W.fnOf "_law_spoiled" "_law_spoiled" (defArgs s_law_spoiled) (defBody s_law_spoiled) (defScope s_law_spoiled) .none kV11 dc11 pm11 an11 cd11 ct11),sl11⟩) (c11:PySem.W.codeIn K cd11 "_law_spoiled"=true) (k11:PySem.W.keepIn K (.ref f11)=true)
    (a12:PySem.W.nsIn K mainGlobals "_law_tour"=some (some (.ref f12))) (l12:K.lookup f12=some ⟨oc12,od12, .func (PySem.W.fnOf "_law_tour" "_law_tour" (defArgs s_law_tour) (defBody s_law_tour) (defScope s_law_tour) .none kV12 dc12 pm12 an12 cd12 ct12),sl12⟩) (c12:PySem.W.codeIn K cd12 "_law_tour"=true) (k12:PySem.W.keepIn K (.ref f12)=true)
    (a13:PySem.W.nsIn K mainGlobals "law"=some (some (.ref f13))) (l13:K.lookup f13=some ⟨oc13,od13, .func (PySem.W.fnOf "law" "law" (defArgs s_law) (defBody s_law) (defScope s_law) .none kV13 dc13 pm13 an13 cd13 ct13),sl13⟩) (c13:PySem.W.codeIn K cd13 "law"=true) (k13:PySem.W.keepIn K (.ref f13)=true)
    (z_all:PySem.W.nsIn K mainGlobals "all"=some none) (z_any:PySem.W.nsIn K mainGlobals "any"=some none) (z_bool:PySem.W.nsIn K mainGlobals "bool"=some none) (z_enumerate:PySem.W.nsIn K mainGlobals "enumerate"=some none) (z_int:PySem.W.nsIn K mainGlobals "int"=some none) (z_isinstance:PySem.W.nsIn K mainGlobals "isinstance"=some none) (z_len:PySem.W.nsIn K mainGlobals "len"=some none) (z_list:PySem.W.nsIn K mainGlobals "list"=some none) (z_max:PySem.W.nsIn K mainGlobals "max"=some none) (z_min:PySem.W.nsIn K mainGlobals "min"=some none) (z_range:PySem.W.nsIn K mainGlobals "range"=some none) (z_sum:PySem.W.nsIn K mainGlobals "sum"=some none) {t_LONGEST_ROAD:Tok} (z_LONGEST_ROAD:PySem.W.nsIn K mainGlobals "LONGEST_ROAD"=some (some (.int 1000000000000 t_LONGEST_ROAD))) {t_MOST_PLACES:Tok} (z_MOST_PLACES:PySem.W.nsIn K mainGlobals "MOST_PLACES"=some (some (.int 40 t_MOST_PLACES)))  :
    TbOk K []∧∃ fd:FuncData,(∀ (s:Shared) (v:Value),BindsTo s fd ⟨[v],[]⟩ [("_law_script",v)])∧∀ base:BHeap,base.tabs=tbOf K []→K.In base→base.Ns mainGlobals mg→(∀ x ∈ ([]:List Str), ∀ c P,PySem.W.tabIn K x=some (c,P)→PySem.W.CodeHd base c P)→FnOk P w K mg base CX0 4 fa fd ["_law_script"] (spLaw K):=by
  have e:=hfa.symm.trans (PySem.W.mg_of X G a13)
  cases e
  have bu:Blt mg:=⟨PySem.W.mg_none_of X G z_all,PySem.W.mg_none_of X G z_any,PySem.W.mg_none_of X G z_bool,PySem.W.mg_none_of X G z_enumerate,PySem.W.mg_none_of X G z_int,PySem.W.mg_none_of X G z_isinstance,PySem.W.mg_none_of X G z_len,PySem.W.mg_none_of X G z_list,PySem.W.mg_none_of X G z_max,PySem.W.mg_none_of X G z_min,PySem.W.mg_none_of X G z_range,PySem.W.mg_none_of X G z_sum,⟨_,PySem.W.mg_of X G z_LONGEST_ROAD⟩,⟨_,PySem.W.mg_of X G z_MOST_PLACES⟩⟩
  have d0:Df K mg "is_square" s_is_square ["thing"] f0 _:=⟨fun_mk (st:=s_is_square) l0 c0 k0,PySem.W.mg_of X G a0,(fun_mk (st:=s_is_square) l0 c0 k0).binds (ps:=["thing"]) fun _ _ _ _ _ _ us hl=>match us,hl with | [_],_=>rfl⟩
  have d1:Df K mg "are_lengths" s_are_lengths ["roads"] f1 _:=⟨fun_mk (st:=s_are_lengths) l1 c1 k1,PySem.W.mg_of X G a1,(fun_mk (st:=s_are_lengths) l1 c1 k1).binds (ps:=["roads"]) fun _ _ _ _ _ _ us hl=>match us,hl with | [_],_=>rfl⟩
  have d2:Df K mg "are_alike_both_ways" s_are_alike_both_ways ["roads"] f2 _:=⟨fun_mk (st:=s_are_alike_both_ways) l2 c2 k2,PySem.W.mg_of X G a2,(fun_mk (st:=s_are_alike_both_ways) l2 c2 k2).binds (ps:=["roads"]) fun _ _ _ _ _ _ us hl=>match us,hl with | [_],_=>rfl⟩
  have d3:Df K mg "are_straight" s_are_straight ["roads"] f3 _:=⟨fun_mk (st:=s_are_straight) l3 c3 k3,PySem.W.mg_of X G a3,(fun_mk (st:=s_are_straight) l3 c3 k3).binds (ps:=["roads"]) fun _ _ _ _ _ _ us hl=>match us,hl with | [_],_=>rfl⟩
  have d4:Df K mg "are_roads" s_are_roads ["thing"] f4 _:=⟨fun_mk (st:=s_are_roads) l4 c4 k4,PySem.W.mg_of X G a4,(fun_mk (st:=s_are_roads) l4 c4 k4).binds (ps:=["thing"]) fun _ _ _ _ _ _ us hl=>match us,hl with | [_],_=>rfl⟩
  have d5:Df K mg "length_of" s_length_of ["roads", "tour"] f5 _:=⟨fun_mk (st:=s_length_of) l5 c5 k5,PySem.W.mg_of X G a5,(fun_mk (st:=s_length_of) l5 c5 k5).binds (ps:=["roads", "tour"]) fun _ _ _ _ _ _ us hl=>match us,hl with | [_,_],_=>rfl⟩
  have d6:Df K mg "_law_cell" s_law_cell ["_law_script", "_law_k"] f6 _:=⟨fun_mk (st:=s_law_cell) l6 c6 k6,PySem.W.mg_of X G a6,(fun_mk (st:=s_law_cell) l6 c6 k6).binds (ps:=["_law_script", "_law_k"]) fun _ _ _ _ _ _ us hl=>match us,hl with | [_,_],_=>rfl⟩
  have d7:Df K mg "_law_mixed" s_law_mixed ["_law_cell_here", "_law_k"] f7 _:=⟨fun_mk (st:=s_law_mixed) l7 c7 k7,PySem.W.mg_of X G a7,(fun_mk (st:=s_law_mixed) l7 c7 k7).binds (ps:=["_law_cell_here", "_law_k"]) fun _ _ _ _ _ _ us hl=>match us,hl with | [_,_],_=>rfl⟩
  have d8:Df K mg "_law_row" s_law_row ["_law_cell_here", "_law_many", "_law_bounds", "_law_plain"] f8 _:=⟨fun_mk (st:=s_law_row) l8 c8 k8,PySem.W.mg_of X G a8,(fun_mk (st:=s_law_row) l8 c8 k8).binds (ps:=["_law_cell_here", "_law_many", "_law_bounds", "_law_plain"]) fun _ _ _ _ _ _ us hl=>match us,hl with | [_,_,_,_],_=>rfl⟩
  have d9:Df K mg "_law_roads" s_law_roads ["_law_script", "_law_start", "_law_many"] f9 _:=⟨fun_mk (st:=s_law_roads) l9 c9 k9,PySem.W.mg_of X G a9,(fun_mk (st:=s_law_roads) l9 c9 k9).binds (ps:=["_law_script", "_law_start", "_law_many"]) fun _ _ _ _ _ _ us hl=>match us,hl with | [_,_,_],_=>rfl⟩
  have d10:Df K mg "_law_are" s_law_are ["_law_thing"] f10 _:=⟨fun_mk (st:=s_law_are) l10 c10 k10,PySem.W.mg_of X G a10,(fun_mk (st:=s_law_are) l10 c10 k10).binds (ps:=["_law_thing"]) fun _ _ _ _ _ _ us hl=>match us,hl with | [_],_=>rfl⟩
  have d11:Df K mg "_law_spoiled" s_law_spoiled ["_law_roads_here", "_law_number"] f11 _:=⟨fun_mk (st:=s_law_spoiled) l11 c11 k11,PySem.W.mg_of X G a11,(fun_mk (st:=s_law_spoiled) l11 c11 k11).binds (ps:=["_law_roads_here", "_law_number"]) fun _ _ _ _ _ _ us hl=>match us,hl with | [_,_],_=>rfl⟩
  have d12:Df K mg "_law_tour" s_law_tour ["_law_roads_here", "_law_cell_here"] f12 _:=⟨fun_mk (st:=s_law_tour) l12 c12 k12,PySem.W.mg_of X G a12,(fun_mk (st:=s_law_tour) l12 c12 k12).binds (ps:=["_law_roads_here", "_law_cell_here"]) fun _ _ _ _ _ _ us hl=>match us,hl with | [_,_],_=>rfl⟩
  have d13:Df K mg "law" s_law ["_law_script"] fa _:=⟨fun_mk (st:=s_law) l13 c13 k13,PySem.W.mg_of X G a13,(fun_mk (st:=s_law) l13 c13 k13).binds (ps:=["_law_script"]) fun _ _ _ _ _ _ us hl=>match us,hl with | [_],_=>rfl⟩
  refine ⟨tbOk_nil,PySem.W.fnOf "law" "law" (defArgs s_law) (defBody s_law) (defScope s_law) .none kV13 dc13 pm13 an13 cd13 ct13,fun s v => .of_eq rfl,fun base ht _ _ hCd=>?_⟩
  have F_is_square:=ok_is_square (P:=P) (w:=w) (base:=base) d0.fn bu  hl_is_square hG_is_square
  have F_are_lengths:=ok_are_lengths (P:=P) (w:=w) (base:=base) d1.fn bu  hl_are_lengths hG_are_lengths
  have F_are_alike_both_ways:=ok_are_alike_both_ways (P:=P) (w:=w) (base:=base) d2.fn bu  hl_are_alike_both_ways hG_are_alike_both_ways
  have F_are_straight:=ok_are_straight (P:=P) (w:=w) (base:=base) d3.fn bu  hl_are_straight hG_are_straight
  have F_are_roads:=ok_are_roads (P:=P) (w:=w) (base:=base) d4.fn bu (d0.cal F_is_square) (d1.cal F_are_lengths) (d2.cal F_are_alike_both_ways) (d3.cal F_are_straight) hl_are_roads hG_are_roads
  have F_length_of:=ok_length_of (P:=P) (w:=w) (base:=base) d5.fn bu  hl_length_of hG_length_of
  have F_law_cell:=ok_law_cell (P:=P) (w:=w) (base:=base) d6.fn bu  hl_law_cell hG_law_cell
  have F_law_mixed:=ok_law_mixed (P:=P) (w:=w) (base:=base) d7.fn bu  hl_law_mixed hG_law_mixed
  have F_law_row:=ok_law_row (P:=P) (w:=w) (base:=base) d8.fn bu (d7.cal F_law_mixed) hl_law_row hG_law_row
  have F_law_roads:=ok_law_roads (P:=P) (w:=w) (base:=base) d9.fn bu (d6.cal F_law_cell) (d8.cal F_law_row) hl_law_roads hG_law_roads
  have F_law_are:=ok_law_are (P:=P) (w:=w) (base:=base) d10.fn bu  hl_law_are hG_law_are
  have F_law_spoiled:=ok_law_spoiled (P:=P) (w:=w) (base:=base) d11.fn bu  hl_law_spoiled hG_law_spoiled
  have F_law_tour:=ok_law_tour (P:=P) (w:=w) (base:=base) d12.fn bu (d7.cal F_law_mixed) (d5.cal F_length_of) hl_law_tour hG_law_tour
  have F_law:=ok_law (P:=P) (w:=w) (base:=base) d13.fn bu (d4.cal F_are_roads) (d6.cal F_law_cell) (d7.cal F_law_mixed) (d9.cal F_law_roads) (d12.cal F_law_tour) (d11.cal F_law_spoiled) (d10.cal F_law_are) hl_law hG_law
  exact F_law
theorem walk {l:PySem.W.OpenLaw} {q:Program} {loose:List Str} {XP:(Str→Option Value)→Heap→Prop} {YP:World→Heap→Prop} {d:DefRec} {K:Params→PySem.W.Frag} (hn:l.most=some 63) (hdf:d.params.defaults=[])
    (hY:∀ (w:World) (h:Heap),YP w h→(K w.params).In h) (hrec:∀ x ∈ ([]:List Str), ∃ dr,(recsOf q).find? (fun e=>e.name == x)=some dr)
    (Fx:∀ (w:World) (mg:Str→Option Value) (fa:Addr) (h:Heap),(K w.params).In h→h.Ns mainGlobals mg→mg d.name=some (.ref fa) →
      TbOk (K w.params) []∧∃ fd:FuncData,(∀ (s:Shared) (u:Value),BindsTo s fd ⟨[u],[]⟩ [("_law_script",u)])∧∀ base:BHeap,base.tabs=tbOf (K w.params) []→(K w.params).In base→base.Ns mainGlobals mg→(∀ x ∈ ([]:List Str), ∀ c P,PySem.W.tabIn (K w.params) x=some (c,P)→PySem.W.CodeHd base c P)→FnOk l.prog w (K w.params) mg base CX0 4 fa fd ["_law_script"] (spLaw (K w.params))) :
    PySem.W.WalkO q loose XP YP l.row.toRowW d [] (fun f vs=>PySem.call f vs) :=
  L2.walk_ofT (n:=63) (k:=4) (x := "_law_script") (names:=[]) (CX:=fun _=>CX0) (sp:=fun w=>spLaw (K w.params)) hn (by decide) hdf ⟨rfl,by decide,by decide⟩ hY hrec Fx
    (fun _ H a ns hl hb hS=>⟨[],[.lst (ns.map .int)], .cl (.bl true),fun p hp=>(by cases hp), .cons (.lst (by rw [hide_nil]; exact hS) (Reps.ints ns)) .nil,law_true ns hl hb,fun v H' _ q=>by cases q; rfl⟩) fun _ _ _ _ _ z=>z
end KX
open PySem PySem.W PyProof.Rows
set_option maxRecDepth 100000 in
set_option maxHeartbeats 0 in
theorem PySem.Challenge.cw_nearenough_k18_what_are_roads_holds : PySem.Challenge.rw_nearenough_k18_what_are_roads.Holds := by
  w_on; o_law; k_head; (case hw=>w_witness2)
  k_fill
  refine KX.walk (l:=PySem.Challenge.rw_nearenough_k18_what_are_roads) rfl rfl (fun w h Y=>by first | exact PySem.W.kIn_of Y | exact PySem.W.km_in_of Y) (by intro x hx; simp at hx) ?F
  case F =>
    intro w mg fa h KI G hmg
    refine' KX.all_mk KI G hmg ?a0 ?l0 ?c0 ?k0 ?a1 ?l1 ?c1 ?k1 ?a2 ?l2 ?c2 ?k2 ?a3 ?l3 ?c3 ?k3 ?a4 ?l4 ?c4 ?k4 ?a5 ?l5 ?c5 ?k5 ?a6 ?l6 ?c6 ?k6 ?a7 ?l7 ?c7 ?k7 ?a8 ?l8 ?c8 ?k8 ?a9 ?l9 ?c9 ?k9 ?a10 ?l10 ?c10 ?k10 ?a11 ?l11 ?c11 ?k11 ?a12 ?l12 ?c12 ?k12 ?a13 ?l13 ?c13 ?k13 ?z_all ?z_any ?z_bool ?z_enumerate ?z_int ?z_isinstance ?z_len ?z_list ?z_max ?z_min ?z_range ?z_sum ?z_LONGEST_ROAD ?z_MOST_PLACES
    (case a0=>k_is); (case l0=>k_is); (case c0=>k_is); (case k0=>k_is)
    (case a1=>k_is); (case l1=>k_is); (case c1=>k_is); (case k1=>k_is)
    (case a2=>k_is); (case l2=>k_is); (case c2=>k_is); (case k2=>k_is)
    (case a3=>k_is); (case l3=>k_is); (case c3=>k_is); (case k3=>k_is)
    (case a4=>k_is); (case l4=>k_is); (case c4=>k_is); (case k4=>k_is)
    (case a5=>k_is); (case l5=>k_is); (case c5=>k_is); (case k5=>k_is)
    (case a6=>k_is); (case l6=>k_is); (case c6=>k_is); (case k6=>k_is)
    (case a7=>k_is); (case l7=>k_is); (case c7=>k_is); (case k7=>k_is)
    (case a8=>k_is); (case l8=>k_is); (case c8=>k_is); (case k8=>k_is)
    (case a9=>k_is); (case l9=>k_is); (case c9=>k_is); (case k9=>k_is)
    (case a10=>k_is); (case l10=>k_is); (case c10=>k_is); (case k10=>k_is)
    (case a11=>k_is); (case l11=>k_is); (case c11=>k_is); (case k11=>k_is)
    (case a12=>k_is); (case l12=>k_is); (case c12=>k_is); (case k12=>k_is)
    (case a13=>k_is); (case l13=>k_is); (case c13=>k_is); (case k13=>k_is)
    (case z_all=>k_is)
    (case z_any=>k_is)
    (case z_bool=>k_is)
    (case z_enumerate=>k_is)
    (case z_int=>k_is)
    (case z_isinstance=>k_is)
    (case z_len=>k_is)
    (case z_list=>k_is)
    (case z_max=>k_is)
    (case z_min=>k_is)
    (case z_range=>k_is)
    (case z_sum=>k_is)
    (case z_LONGEST_ROAD=>k_is)
    (case z_MOST_PLACES=>k_is)
