import PyProof.Rows.All
import Wide.All
import OpenK.AllK
import Wide.FinOn
import PyProof.EqAt
import PyProof.EqKinds
import PyProof.TupleCall
import KE.BitLaws
import Open.SpecLaws
import KE.OsHead
import KE.OsGo
import PyProof.EnumMake
import PyProof.ZipIter
import PyProof.DictTruth
import PyFlatLaws
import PySem.Challenge.RW_pricesright_s01_answers
set_option Elab.async false
set_option linter.all false
set_option maxRecDepth 100000
namespace L2
open PySem PySem.Spec PyProof.Rows
abbrev Key := Sum Int Str
def keyIs : Key → Value → Bool
  | .inl k, v => Value.isInt k v
  | .inr x, v => Value.isStrOf x v
def keyH (w : World) : Key → Int
  | .inl k => hashInt k
  | .inr x => hashStr w x
theorem keyIs_shape : ∀ {k : Key} {v : Value}, keyIs k v = true → (∃ i t, k = Sum.inl i ∧ v = Value.int i t) ∨ (∃ x t, k = Sum.inr x ∧ v = Value.str x t)
  | .inl i, v, h => by
    obtain ⟨t, e⟩ := Value.isInt_shape (k := i) (v := v) h
    exact .inl ⟨i, t, rfl, e⟩
  | .inr x, v, h => by
    obtain ⟨t, e⟩ := Value.isStrOf_shape (x := x) (v := v) h
    exact .inr ⟨x, t, rfl, e⟩
theorem keyIs_int (i : Int) (t : Tok) : keyIs (.inl i) (.int i t) = true := by simp [keyIs, Value.isInt]
theorem keyIs_str (x : Str) (t : Tok) : keyIs (.inr x) (.str x t) = true := by simp [keyIs, Value.isStrOf]
theorem key_ll (a b : Int) : decide ((Sum.inl a : Key) = Sum.inl b) = (a == b) := by
  by_cases e : a = b
  · subst e; simp
  · have h : ¬ (Sum.inl a : Key) = Sum.inl b := fun q => e (Sum.inl.inj q)
    rw [decide_eq_false h]
    exact (beq_eq_false_iff_ne.mpr e).symm
theorem key_rr (a b : Str) : decide ((Sum.inr a : Key) = Sum.inr b) = decide (a = b) := by
  by_cases e : a = b
  · subst e; simp
  · have h : ¬ (Sum.inr a : Key) = Sum.inr b := fun q => e (Sum.inr.inj q)
    rw [decide_eq_false h, decide_eq_false e]
theorem key_lr (a : Int) (b : Str) : decide ((Sum.inl a : Key) = Sum.inr b) = false := decide_eq_false (fun q => nomatch q)
theorem key_rl (a : Str) (b : Int) : decide ((Sum.inr a : Key) = Sum.inl b) = false := decide_eq_false (fun q => nomatch q)
def mixKind (prog : Program) (w : World) : PySem.KeyKind prog w Key where
  is := keyIs
  hash := keyH w
  inj := fun v a b ha hb => by
    rcases keyIs_shape ha with ⟨i, t, rfl, rfl⟩ | ⟨x, t, rfl, rfl⟩
    · rcases keyIs_shape hb with ⟨j, u, rfl, e⟩ | ⟨y, u, rfl, e⟩
      · injection e with e1 _; rw [e1]
      · exact nomatch e
    · rcases keyIs_shape hb with ⟨j, u, rfl, e⟩ | ⟨y, u, rfl, e⟩
      · exact nomatch e
      · injection e with e1 _; rw [e1]
  byValue := fun k v h => by
    rcases keyIs_shape h with ⟨i, t, rfl, rfl⟩ | ⟨x, t, rfl, rfl⟩ <;> rfl
  pyHash := fun hv h => by
    rcases keyIs_shape hv with ⟨i, t, rfl, rfl⟩ | ⟨x, t, rfl, rfl⟩
    · exact wpAny_pyHash_int h
    · exact wpAny_pyHash_str h
  eqBool := fun hu hv h => by
    rcases keyIs_shape hu with ⟨i, t, rfl, rfl⟩ | ⟨x, t, rfl, rfl⟩
    · rcases keyIs_shape hv with ⟨j, u, rfl, rfl⟩ | ⟨y, u, rfl, rfl⟩
      · rw [key_ll] at h; exact wpAny_eqBool_int h
      · rw [key_lr] at h; exact SeqAt.EqAt.int_str i t y u _ _ _ _ h
    · rcases keyIs_shape hv with ⟨j, u, rfl, rfl⟩ | ⟨y, u, rfl, rfl⟩
      · rw [key_rl] at h; exact SeqAt.EqAt.str_int x t j u _ _ _ _ h
      · rw [key_rr] at h; exact wpAny_eqBool_str h
  «strs» := fun k x t v h => by
    rcases keyIs_shape h with ⟨i, u, rfl, e⟩ | ⟨y, u, rfl, e⟩
    · exact nomatch e
    · injection e with e1 _
      subst e1
      cases v <;> rfl
theorem mixKind_int (prog : Program) (w : World) (i : Int) (t : Tok) : (mixKind prog w).is (.inl i) (.int i t) = true := keyIs_int i t
theorem mixKind_str (prog : Program) (w : World) (x : Str) (t : Tok) : (mixKind prog w).is (.inr x) (.str x t) = true := keyIs_str x t
end L2
namespace L2
open PySem PySem.Spec PyProof.Rows
inductive V where
  | non | bl (b : Bool) | int (i : Int) | str (x : Str) | byt (b : Array UInt8) | flt (b : UInt64) | ref (a : Addr) | ty (n : String)
  deriving DecidableEq
def RelV : V → Value → Prop
  | .non, u => u = Value.none
  | .bl b, u => u = Value.bool b
  | .int i, u => ∃ t, u = Value.int i t
  | .str x, u => ∃ t, u = Value.str x t
  | .byt b, u => ∃ t, u = Value.bytes b t
  | .flt b, u => ∃ t, u = Value.float b t
  | .ref a, u => u = Value.ref a
  | .ty n, u => u = Value.type n
abbrev Vals : List V → List Value → Prop := Paired RelV
theorem Vals.length {xs : List V} {us : List Value} (r : Vals xs us) : xs.length = us.length := Paired.length r
theorem Vals.get : ∀ {xs : List V} {us : List Value} {i : Nat} {x : V}, Vals xs us → xs[i]? = some x → ∃ u, us[i]? = some u ∧ RelV x u
  | _, _, _, _, .nil, e => by simp at e
  | _, _, 0, _, .cons r _, e => by simp at e; subst e; exact ⟨_, rfl, r⟩
  | _, _, i + 1, x, .cons _ t, e => by
    obtain ⟨u, h1, h2⟩ := Vals.get (i := i) (x := x) t (by simpa using e)
    exact ⟨u, by simpa using h1, h2⟩
theorem Vals.set {x : V} {u : Value} (r : RelV x u) : ∀ {xs : List V} {us : List Value} (i : Nat), Vals xs us → Vals (xs.set i x) (us.set i u)
  | _, _, _, .nil => .nil
  | _, _, 0, .cons _ t => .cons r t
  | _, _, i + 1, .cons q t => .cons q (Vals.set r i t)
theorem Vals.append : ∀ {xs ys : List V} {us ws : List Value}, Vals xs us → Vals ys ws → Vals (xs ++ ys) (us ++ ws)
  | _, _, _, _, .nil, s => s
  | _, _, _, _, .cons r t, s => .cons r (Vals.append t s)
theorem Vals.take : ∀ {xs : List V} {us : List Value} (n : Nat), Vals xs us → Vals (xs.take n) (us.take n)
  | _, _, 0, _ => .nil
  | _, _, _ + 1, .nil => .nil
  | _, _, n + 1, .cons r t => .cons r (Vals.take n t)
theorem Vals.drop : ∀ {xs : List V} {us : List Value} (n : Nat), Vals xs us → Vals (xs.drop n) (us.drop n)
  | _, _, 0, r => r
  | _, _, _ + 1, .nil => .nil
  | _, _, n + 1, .cons _ t => Vals.drop n t
def RelO : Option V → Option Value → Prop
  | some v, some u => RelV v u
  | none, none => True
  | _, _ => False
def KV {κ : Type} : List (κ × V) → List (κ × Value) → Prop := Paired fun (p : κ × V) (q : κ × Value) => p.1 = q.1 ∧ RelV p.2 q.2
def kV : Key → V
  | .inl i => .int i
  | .inr x => .str x
inductive HO where
    | lst (xs : List V)
    | tup (xs : List V)
    | dK (kvs : List (Key × V)) | dT (kvs : List (List Key × V))
    | set (S : Int → Bool) (n : Nat)
    | ins (C dx : Addr) (fs : List (Str × V))
    | own (x : Addr)
    | xd (fs : List (Str × V))
    | met (f x : Addr)
    | rng (lo hi : Int)
    | frz (o : Obj) (u : HO)
    | tbl (ps : Array Value)
    | ext (φ : Heap → Prop)
abbrev Hp := Addr → Option HO
def upd (H : Hp) (a : Addr) (o : HO) : Hp := fun b => if b = a then some o else H b
theorem upd_same {H : Hp} {a : Addr} {o : HO} : upd H a o a = some o := by unfold upd; rw [if_pos rfl]
theorem upd_ne {H : Hp} {a b : Addr} {o : HO} (h : b ≠ a) : upd H a o b = H b := by unfold upd; rw [if_neg h]
theorem upd_upd {H : Hp} {a : Addr} {o u : HO} : upd (upd H a o) a u = upd H a u := by
  funext b; unfold upd; split <;> rfl
theorem ne_of {H : Hp} {a b : Addr} {o u : HO} (h : H a = some o) (h' : H b = some u) (d : o ≠ u) : a ≠ b := by
  intro e; subst e; rw [h] at h'; exact d (Option.some.inj h')
theorem ne_of_none {H : Hp} {a b : Addr} {o : HO} (h : H a = some o) (h' : H b = none) : a ≠ b := by
  intro e; subst e; rw [h] at h'; cases h'
section
variable (P : Program) (w : World)
def ObjOk (H : Hp) (h : Heap) (a : Addr) : HO → Prop
  | .lst xs => xs.length ≤ sizeLine ∧ ∃ (its : List Value) (n : Nat), Vals xs its ∧ h.get? a = some { cls := .type "list", data := .seq its.toArray n }
  | .tup xs => xs.length ≤ sizeLine ∧ ∃ its : List Value, Vals xs its ∧ IsTup h a its.toArray
  | .dK kvs => kvs.length ≤ sizeLine ∧ (a == sysModules) = false ∧ ∃ vs, KV kvs vs ∧ h.DictOf (mixKind P w) a vs
  | .dT kvs => kvs.length ≤ sizeLine ∧ (a == sysModules) = false ∧ ∃ xs : List (List Key × Addr × Value),
      Paired (fun (p : List Key × V) (q : List Key × Addr × Value) => p.1 = q.1 ∧ H q.2.1 = some (.tup (p.1.map kV)) ∧ RelV p.2 q.2.2) kvs xs ∧
      ∃ o es ep, h.get? a = some o ∧ o.ExactDict ∧ o.data = .dict es ep ∧ es.toList = xs.map (entryOfKey (tupleKind (mixKind P w))) ∧ (xs.map (·.1)).Nodup
  | .set S n => h.SetOf (intKind P w) a S n
  | .ins C dx fs => H dx = some (.own a) ∧ fs.length ≤ 1000 ∧ dx ≠ a ∧ h.get? a = some (PySem.W.instObj C dx) ∧
      ∃ mA, h.Ns1 dx mA ∧ (∀ f, RelO (fs.lookup f) (mA f)) ∧ PySem.Within mA (fs.map (·.1))
  | .own _ => ∃ o, h.get? a = some o
  | .xd fs => ∃ mA, h.Ns1 a mA ∧ ∀ f, RelO (fs.lookup f) (mA f)
  | .rng lo hi => ∃ t u v, h.get? a = some { cls := .type "range", data := .fields #[.int lo t, .int hi u, .int 1 v] }
  | .frz o u => h.get? a = some o ∧ ObjOk H h a u
  | .tbl ps => h.get? a = some { cls := .none, data := .fields ps }
  | .met f x => h.get? a = some (PySem.W.methodObj (.ref f) (.ref x))
  | .ext φ => φ h ∧ (∃ o, h.get? a = some o) ∧ ∀ h1 h2 : Heap, φ h1 → (∀ o, h1.get? a = some o → h2.get? a = some o) → φ h2
def HOk (H : Hp) (h : Heap) : Prop := ∀ a o, H a = some o → ObjOk P w H h a o
end
section
variable {P : Program} {w : World} {H H' : Hp} {h h' : Heap} {a : Addr} {o : HO}
theorem ObjOk.lt (x : ObjOk P w H h a o) : a < h.objs.size := by
  cases o with
  | lst xs => obtain ⟨_, _, _, _, e⟩ := x; exact Heap.lt_size e
  | tup xs => obtain ⟨_, _, _, p⟩ := x; exact p.lt
  | dK kvs => obtain ⟨_, _, _, _, o, _, _, e, _⟩ := x; exact Heap.lt_size e
  | dT kvs => obtain ⟨_, _, _, _, o, _, _, e, _⟩ := x; exact Heap.lt_size e
  | set S n => obtain ⟨o, _, _, _, e, _⟩ := x; exact Heap.lt_size e
  | ins C dx fs => obtain ⟨_, _, _, e, _⟩ := x; exact Heap.lt_size e
  | own y => obtain ⟨_, e⟩ := x; exact Heap.lt_size e
  | xd fs => obtain ⟨_, ⟨_, _, _, e, _⟩, _⟩ := x; exact Heap.lt_size e
  | rng lo hi => obtain ⟨_, _, _, e⟩ := x; exact Heap.lt_size e
  | frz ob u => obtain ⟨e, _⟩ := x; exact Heap.lt_size e
  | tbl ps => exact Heap.lt_size (show h.get? a = some _ from x)
  | met f y => exact Heap.lt_size (show h.get? a = some _ from x)
  | ext φ => obtain ⟨_, ⟨_, e⟩, _⟩ := x; exact Heap.lt_size e
theorem Paired.mapP {α β : Type} {F G : α → β → Prop} : ∀ {l₁ : List α} {l₂ : List β}, Paired F l₁ l₂ → (∀ a b, F a b → G a b) → Paired G l₁ l₂
  | _, _, .nil, _ => .nil
  | _, _, .cons r t, f => .cons (f _ _ r) (Paired.mapP t f)
theorem ObjOk.stay (x : ObjOk P w H h a o) (k : ∀ b u, (b = a ∨ H b = some (.own a)) → h.get? b = some u → h'.get? b = some u)
    (ho : ∀ b, H b = some (.own a) → H' b = some (.own a)) (ht : ∀ b xs, H b = some (.tup xs) → H' b = some (.tup xs)) : ObjOk P w H' h' a o := by
  induction o with
  | lst xs => obtain ⟨z, its, n, r, e⟩ := x; exact ⟨z, its, n, r, k _ _ (.inl rfl) e⟩
  | tup xs => obtain ⟨z, its, r, ob, e, c⟩ := x; exact ⟨z, its, r, ob, k _ _ (.inl rfl) e, c⟩
  | dK kvs => obtain ⟨z, y, vs, r, ob, es, ep, e, c⟩ := x; exact ⟨z, y, vs, r, ob, es, ep, k _ _ (.inl rfl) e, c⟩
  | dT kvs =>
    obtain ⟨z, y, xs, r, ob, es, ep, e, c⟩ := x
    exact ⟨z, y, xs, Paired.mapP r fun p q z => ⟨z.1, ht _ _ z.2.1, z.2.2⟩, ob, es, ep, k _ _ (.inl rfl) e, c⟩
  | set S n => obtain ⟨ob, es, ep, t, e, c⟩ := x; exact ⟨ob, es, ep, t, k _ _ (.inl rfl) e, c⟩
  | ins C dx fs =>
    obtain ⟨d, z, ne, e, mA, ⟨od, es, ep, e2, c⟩, r⟩ := x
    exact ⟨ho _ d, z, ne, k _ _ (.inl rfl) e, mA, ⟨od, es, ep, k _ _ (.inr d) e2, c⟩, r⟩
  | own y => obtain ⟨ob, e⟩ := x; exact ⟨ob, k _ _ (.inl rfl) e⟩
  | xd fs => obtain ⟨mA, ⟨od, es, ep, e, c⟩, r⟩ := x; exact ⟨mA, ⟨od, es, ep, k _ _ (.inl rfl) e, c⟩, r⟩
  | rng lo hi => obtain ⟨t, u, v, e⟩ := x; exact ⟨t, u, v, k _ _ (.inl rfl) e⟩
  | frz ob u ih => obtain ⟨e, q⟩ := x; exact ⟨k _ _ (.inl rfl) e, ih q⟩
  | tbl ps =>
    have e : h.get? a = some { cls := .none, data := .fields ps } := x
    show h'.get? a = some { cls := .none, data := .fields ps }
    exact k a _ (.inl rfl) e
  | met f y =>
    have e : h.get? a = some (PySem.W.methodObj (.ref f) (.ref y)) := x
    show h'.get? a = some (PySem.W.methodObj (.ref f) (.ref y))
    exact k a _ (.inl rfl) e
  | ext φ => obtain ⟨p, ⟨o, e⟩, st⟩ := x; exact ⟨st _ _ p fun o q => k _ _ (.inl rfl) q, ⟨o, k _ _ (.inl rfl) e⟩, st⟩
theorem HOk.lt (x : HOk P w H h) (e : H a = some o) : a < h.objs.size := (x a o e).lt
theorem HOk.fresh (x : HOk P w H h) (e : h.objs.size ≤ a) : H a = none := by
  cases q : H a with
  | none => rfl
  | some u => exact absurd (Nat.lt_of_lt_of_le (x.lt q) e) (Nat.lt_irrefl _)
theorem HOk.kept (x : HOk P w H h) (k : ∀ b u, h.get? b = some u → h'.get? b = some u) : HOk P w H h' := fun a o e =>
  (x a o e).stay (fun b u _ q => k b u q) (fun _ q => q) fun _ _ q => q
theorem HOk.laid (x : HOk P w H h) (k : ∀ b u, h.get? b = some u → h'.get? b = some u) (hp : h.objs.size ≤ a) (new : ObjOk P w (upd H a o) h' a o) : HOk P w (upd H a o) h' := fun b u e => by
  have hn := x.fresh hp
  by_cases hb : b = a
  · subst hb; rw [upd_same] at e; cases e; exact new
  · rw [upd_ne hb] at e
    exact (x b u e).stay (fun c v _ q => k c v q) (fun c q => by rw [upd_ne (ne_of_none q hn)]; exact q) fun c xs q => by rw [upd_ne (ne_of_none q hn)]; exact q
end
def Rd (H : Hp) (a : Addr) (u : HO) : Prop := H a = some u ∨ ∃ o, H a = some (.frz o u)
theorem Rd.ok {P : Program} {w : World} {H : Hp} {h : Heap} {a : Addr} {u : HO} (r : Rd H a u) (x : HOk P w H h) : ObjOk P w H h a u := by
  rcases r with r | ⟨o, r⟩
  · exact x a u r
  · obtain ⟨_, q⟩ := x a _ r
    exact q
def Mut : Option HO → Prop
  | some (.lst _) => True
  | some (.dK _) => True
  | some (.dT _) => True
  | some (.set _ _) => True
  | some (.ins _ _ _) => True
  | some (.ext _) => True
  | _ => False
section
variable {P : Program} {w : World} {H : Hp} {h h' : Heap} {x e : Addr} {o' : HO}
theorem HOk.write (ok : HOk P w H h) (mu : Mut (H x)) (he : e = x ∨ H e = some (.own x)) (k : ∀ b u, b ≠ e → h.get? b = some u → h'.get? b = some u) (heo : ∃ u, h'.get? e = some u)
    (new : ObjOk P w (upd H x o') h' x o') : HOk P w (upd H x o') h' := fun b u q => by
  have nown : ∀ c y, H c = some (.own y) → c ≠ x := fun c y r z => by subst z; rw [r] at mu; exact mu
  have ntup : ∀ c xs, H c = some (.tup xs) → c ≠ x := fun c xs r z => by subst z; rw [r] at mu; exact mu
  by_cases hb : b = x
  · subst hb; rw [upd_same] at q; cases q; exact new
  · rw [upd_ne hb] at q
    by_cases hbe : b = e
    · have q' : H b = some (.own x) := by
        rcases he with z | z
        · exact absurd (hbe.trans z) hb
        · rw [hbe]; exact z
      rw [q] at q'; cases q'
      obtain ⟨v, hv⟩ := heo
      exact ⟨v, by rw [hbe]; exact hv⟩
    · refine (ok b u q).stay (fun c v hc r => k c v ?_ r) (fun c r => by rw [upd_ne (nown c b r)]; exact r) fun c xs r => by rw [upd_ne (ntup c xs r)]; exact r
      rcases hc with rfl | hc
      · exact hbe
      · rintro rfl
        rcases he with z | z
        · exact nown c b hc z
        · rw [hc] at z; cases z; exact hb rfl
end
structure Un (fs ex : List Addr) (H H' : Hp) (h h' : Heap) : Prop where
  keep : ∀ b o, h.get? b = some o → H b = none → b ∉ fs → b ∉ ex → h'.get? b = some o
  slot : ∀ b o, h.get? b = some o → H b = none → b ∈ fs → b ∉ ex → ∃ sl, h'.get? b = some { o with slots := sl }
  free : ∀ b o, h.get? b = some o → H b = none → b ∉ ex → H' b = none
  there : ∀ b o, h.get? b = some o → b ∉ ex → ∃ o', h'.get? b = some o'
  tups : ∀ b xs, H b = some (.tup xs) → H' b = some (.tup xs)
  frzs : ∀ b o u, H b = some (.frz o u) → H' b = some (.frz o u)
  tbls : ∀ b ps, H b = some (.tbl ps) → ∃ more, H' b = some (.tbl (ps ++ more))
section
variable {fs fs' ex ex' : List Addr} {H H1 H2 : Hp} {h h1 h2 h' : Heap} {a x e : Addr} {o : HO}
theorem Un.any (u : Un fs ex H H1 h h1) {b : Addr} {ob : Obj} (q : h.get? b = some ob) (n : H b = none) (hx : b ∉ ex) : ∃ sl, h1.get? b = some { ob with slots := sl } := by
  by_cases hb : b ∈ fs
  · exact u.slot b ob q n hb hx
  · exact ⟨ob.slots, u.keep b ob q n hb hx⟩
theorem Un.kept (k : ∀ b u, h.get? b = some u → h'.get? b = some u) : Un fs ex H H h h' :=
  ⟨fun b ob q _ _ _ => k b ob q, fun b ob q _ _ _ => ⟨ob.slots, k b ob q⟩, fun _ _ _ n _ => n, fun b ob q _ => ⟨ob, k b ob q⟩, fun _ _ q => q, fun _ _ _ q => q, fun _ ps q => ⟨#[], by rw [q]; simp⟩⟩
theorem Un.refl : Un fs ex H H h h := Un.kept fun _ _ q => q
theorem Un.laid (k : ∀ b u, h.get? b = some u → h'.get? b = some u) (hp : h.objs.size ≤ a) (hn : H a = none) : Un fs ex H (upd H a o) h h' where
  keep := fun b u q _ _ _ => k b u q
  slot := fun b u q _ _ _ => ⟨u.slots, k b u q⟩
  free := fun b u q n _ => by rw [upd_ne (Nat.ne_of_lt (Nat.lt_of_lt_of_le (Heap.lt_size q) hp))]; exact n
  there := fun b u q _ => ⟨u, k b u q⟩
  tups := fun b xs q => by rw [upd_ne (ne_of_none q hn)]; exact q
  frzs := fun b u xs q => by rw [upd_ne (ne_of_none q hn)]; exact q
  tbls := fun b ps q => ⟨#[], by rw [upd_ne (ne_of_none q hn), q]; simp⟩
theorem Un.write (mu : Mut (H x)) (he : e = x ∨ H e = some (.own x)) (k : ∀ b u, b ≠ e → h.get? b = some u → h'.get? b = some u) (heo : ∃ u, h'.get? e = some u) : Un fs ex H (upd H x o) h h' := by
  have hx : ∀ b, H b = none → b ≠ x := fun b n z => by subst z; rw [n] at mu; exact mu
  have hb : ∀ b, H b = none → b ≠ e := fun b n z => by
    subst z
    rcases he with r | r
    · exact hx b n r
    · rw [n] at r; cases r
  have hm : ∀ b u, H b = some u → ¬ Mut (some u) → b ≠ x := fun b u q nm z => by subst z; rw [q] at mu; exact nm mu
  refine ⟨fun b u q n _ _ => k b u (hb b n) q, fun b u q n _ _ => ⟨u.slots, k b u (hb b n) q⟩, fun b u q n _ => by rw [upd_ne (hx b n)]; exact n, fun b u q _ => ?_,
    fun b xs q => by rw [upd_ne (hm b _ q fun z => z)]; exact q, fun b u xs q => by rw [upd_ne (hm b _ q fun z => z)]; exact q, fun b ps q => ⟨#[], by rw [upd_ne (hm b _ q fun z => z), q]; simp⟩⟩
  by_cases hbe : b = e
  · subst hbe; exact heo
  · exact ⟨u, k b u hbe q⟩
end
def trk (h : Heap) (H : Hp) : List Addr := (List.range h.objs.size).filter fun a => (H a).isSome
def hidT (h : Heap) (H : Hp) : Heap := PySem.W.hideAll h (trk h H)
theorem hidT_size (h : Heap) (H : Hp) : (hidT h H).objs.size = h.objs.size := PySem.W.hideAll_size _ _
theorem hidT_get {h : Heap} {H : Hp} {b : Addr} {o : Obj} (e : h.get? b = some o) (n : H b = none) : (hidT h H).get? b = some o :=
  PySem.W.hideAll_get _ e fun hm => by
    have q : (H b).isSome = true := (List.mem_filter.mp hm).2
    rw [n] at q; simp at q
theorem of_hidT {h : Heap} {H : Hp} {b : Addr} {o : Obj} (e : (hidT h H).get? b = some o) : h.get? b = some o ∧ H b = none := by
  have e' : h.get? b = some o := PySem.W.of_hideAll (trk h H) e
  refine ⟨e', ?_⟩
  cases q : H b with
  | none => rfl
  | some x =>
    have hm : b ∈ trk h H := List.mem_filter.mpr ⟨List.mem_range.mpr (Heap.lt_size e'), by simp [q]⟩
    have z : (hidT h H).get? b = none := PySem.W.hideAll_none (trk h H) hm
    rw [z] at e; cases e
end L2
namespace L2
open PySem PySem.Spec PyProof.Rows
structure Mod (K : PySem.W.Frag) (mg : Str → Option Value) (base : Heap) : Prop where
  kin : K.In base
  glob : base.Ns mainGlobals mg
  blt : ∃ mb, base.Ns builtinsNs mb ∧ ∀ x : Str, x ≠ "__name__" → mb x = bootBuiltins x
  nolimit : base.NoLimit
structure Cx where
  prog : Program
  w : World
  K : PySem.W.Frag
  mg : Str → Option Value
  base : Heap
  A : Around
  N : List Str
  s_0 : Shared
  H_0 : Hp
  env : Env
  outer : List Env
  stack : List Env
  ex : List Addr
  fn : Str → Bool
  calm : Bool
  pn : List (Addr × Obj)
  xe : Value → Shared → Prop
def frs (l : List Env) : List Addr := l.filterMap (·.frame)
abbrev Cx.fs (X : Cx) : List Addr := frs X.outer
def Vis (sc : Scope) (x : Str) : Prop := sc.names.lookup x = some .local ∨ sc.names.lookup x = some .cell ∨ sc.names.lookup x = some .free
def Loc (sc : Scope) (x : Str) : Prop := sc.names.lookup x = some .local ∨ sc.names.lookup x = some .cell
def Look (env : Env) (h : Heap) (m : Str → Option Value) (x : Str) (u : Value) : Prop :=
  (env.kindOf x = some .local ∧ m x = some u) ∨ ((env.kindOf x = some .cell ∨ env.kindOf x = some .free) ∧ ∃ c, env.cells.lookup x = some c ∧ h.IsCell c (some u))
structure Cx.Ok (X : Cx) : Prop where
  mod : Mod X.K X.mg X.base
  kind : X.env.scope.kind = .function
  glob : X.env.globals = mainGlobals
  blt : X.env.builtins = builtinsNs
  above : X.s_0.heap.objs.size ≤ X.env.locals
  inj : ∀ x y c, X.env.cells.lookup x = some c → X.env.cells.lookup y = some c → x = y
  has : ∀ x, (X.env.kindOf x = some .cell ∨ X.env.kindOf x = some .free) → ∃ c, X.env.cells.lookup x = some c
  cab : ∀ x c, X.fn x = true → X.env.cells.lookup x = some c → X.s_0.heap.objs.size ≤ c
  hd : X.calm = true → X.A.handled = none
  frames : X.A.frames = some X.stack
  stk : X.stack = X.outer ∨ (X.stack = X.env :: X.outer ∧ X.env.frame = some X.env.locals)
  exf : ∀ b ∈ X.ex, b ≠ X.env.locals ∧ ∀ x c, X.env.cells.lookup x = some c → c ≠ b
  bs : ∀ b o, X.base.get? b = some o → X.s_0.heap.get? b = some o ∧ X.H_0 b = none
  bsz : X.base.objs.size ≤ X.s_0.heap.objs.size
  noex : ∀ b o, X.base.get? b = some o → b ∉ X.ex
  exfs : ∀ b ∈ X.ex, b ∉ X.fs
  funs : X.s_0.heap.FunFrames X.base X.outer
  frf : ∀ b ∈ X.fs, X.H_0 b = none
structure Inv (X : Cx) (pins : List (Addr × Obj)) (σ : List (Option V)) (H : Hp) (s : Shared) : Prop where
  ok : X.Ok
  os : s.os = X.s_0.os
  bare : AllBare s.gens
  base : Un X.fs X.ex X.H_0 H X.s_0.heap s.heap
  loc : ∃ m, s.heap.Ns X.env.locals m ∧ ∀ (i : Nat) (x : Str) (v : V), X.N[i]? = some x → σ[i]? = some (some v) → Vis X.env.scope x → ∃ u, RelV v u ∧ Look X.env s.heap m x u
  cell : ∀ x c, X.env.cells.lookup x = some c → ∃ v, s.heap.IsCell c v
  free : H X.env.locals = none
  freeC : ∀ x c, X.env.cells.lookup x = some c → H c = none
  pin : ∀ p ∈ X.pn ++ pins, s.heap.get? p.1 = some p.2 ∧ H p.1 = none ∧ p.1 ≠ X.env.locals ∧ p.1 ∉ X.fs ∧ ∀ v, p.2.data ≠ .cell v
  hok : HOk X.prog X.w H s.heap
  len : σ.length = X.N.length
section
variable {X : Cx} {pins : List (Addr × Obj)} {σ : List (Option V)} {H H' : Hp} {s : Shared} {h' : Heap}
theorem Cx.Ok.nofr (ok : X.Ok) {b : Addr} {o : Obj} (e : X.base.get? b = some o) : b ∉ X.fs := fun hb => by
  have := (ok.funs.mem hb).1
  rw [e] at this; cases this
theorem Inv.bs (I : Inv X pins σ H s) : ∀ b o, X.base.get? b = some o → s.heap.get? b = some o ∧ H b = none := fun b o e =>
  ⟨I.base.keep b o (I.ok.bs b o e).1 (I.ok.bs b o e).2 (I.ok.nofr e) (I.ok.noex b o e), I.base.free b o (I.ok.bs b o e).1 (I.ok.bs b o e).2 (I.ok.noex b o e)⟩
theorem Inv.bk (I : Inv X pins σ H s) : ∀ b o, X.base.get? b = some o → s.heap.get? b = some o := fun b o e => (I.bs b o e).1
theorem Inv.mod (I : Inv X pins σ H s) : Mod X.K X.mg X.base := I.ok.mod
theorem Inv.kIn (I : Inv X pins σ H s) : X.K.In s.heap := I.ok.mod.kin.keeps I.bk
theorem Inv.lt (I : Inv X pins σ H s) : X.env.locals < s.heap.objs.size := let ⟨_, hn, _⟩ := I.loc; hn.lt
theorem Inv.sz (I : Inv X pins σ H s) : X.s_0.heap.objs.size ≤ s.heap.objs.size := Nat.le_trans I.ok.above (Nat.le_of_lt I.lt)
theorem Inv.nofs (I : Inv X pins σ H s) {a : Addr} (h : s.heap.objs.size ≤ a) : a ∉ X.fs := fun hb => by
  obtain ⟨_, o, ho, _⟩ := I.ok.funs.mem hb
  exact absurd (Nat.lt_of_lt_of_le (Heap.lt_size ho) (Nat.le_trans I.sz h)) (Nat.lt_irrefl _)
theorem Inv.cne (I : Inv X pins σ H s) : ∀ x c, X.env.cells.lookup x = some c → c ≠ X.env.locals := fun x c e z => by
  obtain ⟨v, o, ho, hd⟩ := I.cell x c e
  obtain ⟨m, ⟨o', es, ep, ho', hd', _⟩, _⟩ := I.loc
  rw [z, ho'] at ho; cases ho; rw [hd'] at hd; cases hd
theorem Inv.funs (I : Inv X pins σ H s) : s.heap.FunFrames X.base X.outer := by
  have all : ∀ (l : List Env), (∀ b ∈ frs l, b ∈ X.fs) → X.s_0.heap.FunFrames X.base l → s.heap.FunFrames X.base l := by
    intro l
    induction l with
    | nil => intro _ _; trivial
    | cons env r ih =>
      intro hs hl
      obtain ⟨hk, ⟨L, o, hf, hn, ho, hd⟩, hr⟩ := hl
      have hL : L ∈ X.fs := hs L (by unfold frs; rw [List.filterMap_cons, hf]; exact List.mem_cons_self)
      obtain ⟨sl, e⟩ := I.base.slot L o ho (I.ok.frf L hL) hL fun z => I.ok.exfs L z hL
      exact ⟨hk, ⟨L, _, hf, hn, e, hd⟩, ih (fun b hb => hs b (by unfold frs; rw [List.filterMap_cons, hf]; exact List.mem_cons_of_mem _ hb)) hr⟩
  exact all X.outer (fun _ hb => hb) I.ok.funs
theorem Inv.stack (I : Inv X pins σ H s) : s.heap.FunFrames X.base X.stack := by
  rcases I.ok.stk with e | ⟨e, hf⟩
  · rw [e]; exact I.funs
  · rw [e]
    obtain ⟨m, hn, _⟩ := I.loc
    refine .cons (by rw [I.ok.kind]; decide) hf hn ?_ I.funs
    exact Heap.get?_none_of_le (Nat.le_trans I.ok.bsz I.ok.above)
theorem Inv.stkSub (I : Inv X pins σ H s) : ∀ b ∈ frs X.stack, b ∈ X.env.locals :: X.fs := fun b hb => by
  rcases I.ok.stk with e | ⟨e, hf⟩
  · rw [e] at hb; exact List.mem_cons_of_mem _ hb
  · rw [e] at hb
    unfold frs at hb
    rw [List.filterMap_cons, hf] at hb
    exact hb
theorem Inv.stkFree (I : Inv X pins σ H s) : ∀ b ∈ frs X.stack, H b = none := fun b hb => by
  rcases List.mem_cons.mp (I.stkSub b hb) with e | hb
  · rw [e]; exact I.free
  · obtain ⟨_, o, ho, _⟩ := I.ok.funs.mem hb
    exact I.base.free b o ho (I.ok.frf b hb) fun z => I.ok.exfs b z hb
theorem Inv.step {g' : Array GenState} {t' : Nat} {d' : Drawn} {ch : List Addr} (I : Inv X pins σ H s)
    (hch : ∀ b ∈ ch, (b ∈ X.ex ∨ X.s_0.heap.objs.size ≤ b) ∧ b ≠ X.env.locals ∧ (∀ x c, X.env.cells.lookup x = some c → c ≠ b) ∧ ∀ p ∈ X.pn ++ pins, p.1 ≠ b)
    (keep : ∀ b o, b ≠ X.env.locals → b ∉ X.fs → b ∉ ch → s.heap.get? b = some o → H b = none → h'.get? b = some o)
    (slot : ∀ b o, b ≠ X.env.locals → b ∈ X.fs → b ∉ ch → s.heap.get? b = some o → H b = none → ∃ sl, h'.get? b = some { o with slots := sl }) (free : ∀ b o, b ∉ ch → s.heap.get? b = some o → H b = none → H' b = none)
    (there : ∀ b o, b ∉ ch → s.heap.get? b = some o → ∃ o', h'.get? b = some o')
    (tups : ∀ b xs, H b = some (.tup xs) → H' b = some (.tup xs)) (frzs : ∀ b o u, H b = some (.frz o u) → H' b = some (.frz o u)) (tbls : ∀ b ps, H b = some (.tbl ps) → ∃ more, H' b = some (.tbl (ps ++ more)))
    (ns : ∀ m, s.heap.Ns X.env.locals m → h'.Ns X.env.locals m) (hok : HOk X.prog X.w H' h') (hg : AllBare g') :
    Inv X pins σ H' { s with heap := h', gens := g', drawn := d', toks := t' } := by
  have neL : ∀ b o, X.s_0.heap.get? b = some o → b ≠ X.env.locals := fun b o e => Nat.ne_of_lt (Nat.lt_of_lt_of_le (Heap.lt_size e) I.ok.above)
  have neC : ∀ b o, X.s_0.heap.get? b = some o → b ∉ X.ex → b ∉ ch := fun b o e hx hb => by
    rcases (hch b hb).1 with z | z
    · exact hx z
    · exact absurd (Nat.lt_of_lt_of_le (Heap.lt_size e) z) (Nat.lt_irrefl _)
  have cellK : ∀ x c, X.env.cells.lookup x = some c → ∀ v, s.heap.IsCell c v → h'.IsCell c v := fun x c e v ⟨o, ho, hd⟩ => by
    have nch : c ∉ ch := fun z => (hch c z).2.2.1 x c e rfl
    by_cases hc : c ∈ X.fs
    · obtain ⟨sl, q⟩ := slot c o (I.cne x c e) hc nch ho (I.freeC x c e)
      exact ⟨_, q, hd⟩
    · exact ⟨o, keep c o (I.cne x c e) hc nch ho (I.freeC x c e), hd⟩
  refine ⟨I.ok, I.os, hg, ⟨fun b o e n hb hx => ?_, fun b o e n hb hx => ?_, fun b o e n hx => ?_, fun b o e hx => ?_, fun b xs e => tups b xs (I.base.tups b xs e), fun b o xs e => frzs b o xs (I.base.frzs b o xs e), fun b ps e => ?_⟩, ?_, fun x c e => ?_, ?_, fun x c e => ?_, fun p hp => ?_, hok, I.len⟩
  · exact keep b o (neL b o e) hb (neC b o e hx) (I.base.keep b o e n hb hx) (I.base.free b o e n hx)
  · obtain ⟨sl, e1⟩ := I.base.slot b o e n hb hx
    obtain ⟨sl', e2⟩ := slot b _ (neL b o e) hb (neC b o e hx) e1 (I.base.free b o e n hx)
    exact ⟨sl', e2⟩
  · obtain ⟨o', e1⟩ := I.base.there b o e hx
    exact free b o' (neC b o e hx) e1 (I.base.free b o e n hx)
  · obtain ⟨o', e1⟩ := I.base.there b o e hx
    exact there b o' (neC b o e hx) e1
  · obtain ⟨m1, e1⟩ := I.base.tbls b ps e
    obtain ⟨m2, e2⟩ := tbls b _ e1
    exact ⟨m1 ++ m2, by rw [e2, Array.append_assoc]⟩
  · obtain ⟨m, hn, hl⟩ := I.loc
    refine ⟨m, ns m hn, fun i x v e1 e2 e3 => ?_⟩
    obtain ⟨u, r, l⟩ := hl i x v e1 e2 e3
    refine ⟨u, r, ?_⟩
    rcases l with l | ⟨k, c, e, z⟩
    · exact .inl l
    · exact .inr ⟨k, c, e, cellK x c e _ z⟩
  · obtain ⟨v, z⟩ := I.cell x c e
    exact ⟨v, cellK x c e v z⟩
  · obtain ⟨m, ⟨o, _, _, ho, _⟩, _⟩ := I.loc
    exact free _ o (fun z => (hch _ z).2.1 rfl) ho I.free
  · obtain ⟨v, o, ho, hd⟩ := I.cell x c e
    exact free c o (fun z => (hch c z).2.2.1 x c e rfl) ho (I.freeC x c e)
  · obtain ⟨e, n, ne, nf, d⟩ := I.pin p hp
    have nch : p.1 ∉ ch := fun z => (hch p.1 z).2.2.2 p hp rfl
    exact ⟨keep p.1 p.2 ne nf nch e n, free p.1 p.2 nch e n, ne, nf, d⟩
theorem Inv.un {t' : Nat} (I : Inv X pins σ H s) (u : Un X.fs [] H H' s.heap h') (hok : HOk X.prog X.w H' h') : Inv X pins σ H' { s with heap := h', toks := t' } := by
  obtain ⟨m, ⟨o, es, ep, ho, r⟩, _⟩ := id I.loc
  obtain ⟨sl, hL⟩ := u.any ho I.free (by simp)
  exact I.step (g' := s.gens) (d' := s.drawn) (ch := []) (fun _ z => nomatch z) (fun b o _ hb _ e n => u.keep b o e n hb (by simp)) (fun b o _ hb _ e n => u.slot b o e n hb (by simp)) (fun b o _ e n => u.free b o e n (by simp)) (fun b o _ e => u.there b o e (by simp)) u.tups u.frzs u.tbls (fun m' hm => by
    obtain ⟨o', es', ep', ho', r'⟩ := hm
    rw [ho] at ho'; cases ho'
    exact ⟨_, es', ep', hL, r'⟩) hok I.bare
theorem Inv.call {g' : Array GenState} {t' : Nat} {d' : Drawn} {ch : List Addr} (I : Inv X pins σ H s) (u : Un (frs X.stack) ch H H' s.heap h') (hok : HOk X.prog X.w H' h') (hg : AllBare g')
    (hch : ∀ b ∈ ch, (b ∈ X.ex ∨ X.s_0.heap.objs.size ≤ b) ∧ b ≠ X.env.locals ∧ (∀ x c, X.env.cells.lookup x = some c → c ≠ b) ∧ ∀ p ∈ X.pn ++ pins, p.1 ≠ b) :
    Inv X pins σ H' { s with heap := h', gens := g', drawn := d', toks := t' } := by
  obtain ⟨m, ⟨o, es, ep, ho, r⟩, _⟩ := id I.loc
  obtain ⟨sl, hL⟩ := u.any ho I.free fun z => (hch _ z).2.1 rfl
  exact I.step (ch := ch) hch (fun b o hL hb hc e n => u.keep b o e n (fun z => (List.mem_cons.mp (I.stkSub b z)).elim hL hb) hc) (fun b o _ _ hc e n => u.any e n hc) (fun b o hc e n => u.free b o e n hc) (fun b o hc e => u.there b o e hc) u.tups u.frzs u.tbls (fun m' hm => by
    obtain ⟨o', es', ep', ho', r'⟩ := hm
    rw [ho] at ho'; cases ho'
    exact ⟨_, es', ep', hL, r'⟩) hok hg
theorem Inv.turned {t' : Nat} {it : Addr} (I : Inv X pins σ H s) (k : ∀ b o, b ≠ it → s.heap.get? b = some o → h'.get? b = some o) (hn : H it = none) (hL : it ≠ X.env.locals)
    (h1 : it ∈ X.ex ∨ X.s_0.heap.objs.size ≤ it) (h2 : ∀ x c, X.env.cells.lookup x = some c → c ≠ it) (h3 : ∀ p ∈ X.pn ++ pins, p.1 ≠ it) : Inv X pins σ H { s with heap := h', toks := t' } := by
  have nit : ∀ b u, H b = some u → b ≠ it := fun b u e z => by rw [z, hn] at e; cases e
  refine I.step (g' := s.gens) (d' := s.drawn) (ch := [it]) (fun b hb => ?_) (fun b o _ _ hc e _ => k b o (fun z => hc (by simp [z])) e) (fun b o _ _ hc e _ => ⟨o.slots, k b o (fun z => hc (by simp [z])) e⟩) (fun _ _ _ _ n => n)
    (fun b o hc e => ⟨o, k b o (fun z => hc (by simp [z])) e⟩) (fun _ _ e => e) (fun _ _ _ e => e) (fun b ps e => ⟨#[], by rw [e]; simp⟩) (fun m hm => ?_) (fun b u e => ?_) I.bare
  · have e : b = it := by simpa using hb
    subst e
    exact ⟨h1, hL, h2, h3⟩
  · obtain ⟨o, es, ep, ho, r⟩ := hm
    exact ⟨o, es, ep, k _ o (Ne.symm hL) ho, r⟩
  · refine (I.hok b u e).stay (fun c v hc q => k c v ?_ q) (fun _ q => q) fun _ _ q => q
    rcases hc with z | z
    · rw [z]; exact nit b u e
    · exact nit c _ z
theorem Inv.tok (I : Inv X pins σ H s) (t : Nat) : Inv X pins σ H { s with toks := t } := I.un (h' := s.heap) (t' := t) Un.refl I.hok
theorem Inv.kept {t' : Nat} (I : Inv X pins σ H s) (k : ∀ b u, s.heap.get? b = some u → h'.get? b = some u) : Inv X pins σ H { s with heap := h', toks := t' } := I.un (Un.kept k) (I.hok.kept k)
theorem Inv.laid {a : Addr} {o : HO} {t' : Nat} (I : Inv X pins σ H s) (k : ∀ b u, s.heap.get? b = some u → h'.get? b = some u) (hp : s.heap.objs.size ≤ a) (new : ObjOk X.prog X.w (upd H a o) h' a o) :
    Inv X pins σ (upd H a o) { s with heap := h', toks := t' } := I.un (Un.laid k hp (I.hok.fresh hp)) (I.hok.laid k hp new)
theorem Inv.write {x e : Addr} {o : HO} {t' : Nat} (I : Inv X pins σ H s) (mu : Mut (H x)) (he : e = x ∨ H e = some (.own x)) (k : ∀ b u, b ≠ e → s.heap.get? b = some u → h'.get? b = some u) (heo : ∃ u, h'.get? e = some u)
    (new : ObjOk X.prog X.w (upd H x o) h' x o) : Inv X pins σ (upd H x o) { s with heap := h', toks := t' } := I.un (Un.write mu he k heo) (I.hok.write mu he k heo new)
theorem Inv.weak {σ' : List (Option V)} (I : Inv X pins σ H s) (hl : σ'.length = σ.length) (w : ∀ (i : Nat) v, σ'[i]? = some (some v) → σ[i]? = some (some v)) : Inv X pins σ' H s :=
  ⟨I.ok, I.os, I.bare, I.base, let ⟨m, hn, hl'⟩ := I.loc; ⟨m, hn, fun i x v e1 e2 e3 => hl' i x v e1 (w i v e2) e3⟩, I.cell, I.free, I.freeC, I.pin, I.hok, hl.trans I.len⟩
theorem Inv.pins_of {pins' : List (Addr × Obj)} (I : Inv X pins σ H s) (h : ∀ p ∈ pins', s.heap.get? p.1 = some p.2 ∧ H p.1 = none ∧ p.1 ≠ X.env.locals ∧ p.1 ∉ X.fs ∧ ∀ v, p.2.data ≠ .cell v) : Inv X pins' σ H s :=
  ⟨I.ok, I.os, I.bare, I.base, I.loc, I.cell, I.free, I.freeC, fun p hp => (List.mem_append.mp hp).elim (fun z => I.pin p (List.mem_append_left _ z)) (h p), I.hok, I.len⟩
theorem nodup_ix {N : List Str} (hN : N.Nodup) {i j : Nat} {x : Str} (a : N[i]? = some x) (b : N[j]? = some x) : i = j := by
  obtain ⟨h1, e1⟩ := List.getElem?_eq_some_iff.mp a
  obtain ⟨h2, e2⟩ := List.getElem?_eq_some_iff.mp b
  exact (List.getElem_inj hN).mp (e1.trans e2.symm)
theorem store_ok2 {M : Model} {A : Around} {E : Value → Shared → Prop} {i : Nat} {x : Str} {v : V} {u : Value} {Q : Unit → Shared → Prop} (I : Inv X pins σ H s) (hN : X.N.Nodup) (hi : X.N[i]? = some x) (hx : Loc X.env.scope x) (r : RelV v u)
    (h : ∀ s', Inv X pins (σ.set i (some v)) H s' → (∃ a, Heap.SameBut a s.heap s'.heap ∧ (a = X.env.locals ∨ X.env.cells.lookup x = some a)) → Q () s') (hf : X.fn x = true ∨ X.env.scope.names.lookup x = some .local := by first | exact .inl rfl | exact .inr rfl | assumption) : wpAny M A (storeName X.env x u) Q E s := by
  obtain ⟨m, hn, hl⟩ := id I.loc
  have hcls : (X.env.scope.kind == .class || (X.env.scope.kind == .module && X.env.locals != X.env.globals)) = false := by rw [I.ok.kind]; rfl
  have hiσ : i < σ.length := by rw [I.len]; exact (List.getElem?_eq_some_iff.mp hi).1
  have cne := I.cne
  have tracked : ∀ {a : Addr} {h' : Heap}, (∃ o, s.heap.get? a = some o ∧ H a = none) → Heap.SameBut a s.heap h' → HOk X.prog X.w H h' := fun {a h'} ha hs b ob e => by
    obtain ⟨_, _, hfree⟩ := ha
    refine (I.hok b ob e).stay (fun c w' hc q => (hs.2 c ?_).trans q) (fun _ q => q) fun _ _ q => q
    rintro rfl
    rcases hc with rfl | hc
    · rw [hfree] at e; cases e
    · rw [hfree] at hc; cases hc
  rcases hx with hk | hk
  · refine wpAny_storeName_local hk hn (fun h' hn' hs => ?_) hcls
    obtain ⟨oL, _, _, hoL, _⟩ := id hn
    refine h _ ⟨I.ok, I.os, I.bare, ⟨fun b o e n hb hx => ?_, fun b o e n hb hx => ?_, I.base.free, fun b o e hx => ?_, I.base.tups, I.base.frzs, I.base.tbls⟩, ⟨_, hn', fun j y v' e1 e2 e3 => ?_⟩, fun y c e => ?_, I.free, I.freeC, fun p hp => ?_, tracked ⟨oL, hoL, I.free⟩ hs, by simpa using I.len⟩ ⟨_, hs, .inl rfl⟩
    · exact (hs.2 b (Nat.ne_of_lt (Nat.lt_of_lt_of_le (Heap.lt_size e) I.ok.above))).trans (I.base.keep b o e n hb hx)
    · obtain ⟨sl, e1⟩ := I.base.slot b o e n hb hx
      exact ⟨sl, (hs.2 b (Nat.ne_of_lt (Nat.lt_of_lt_of_le (Heap.lt_size e) I.ok.above))).trans e1⟩
    · obtain ⟨o', e1⟩ := I.base.there b o e hx
      exact ⟨o', (hs.2 b (Nat.ne_of_lt (Nat.lt_of_lt_of_le (Heap.lt_size e) I.ok.above))).trans e1⟩
    · by_cases hj : j = i
      · subst hj
        rw [hi] at e1; cases e1
        rw [List.getElem?_set_self hiσ] at e2
        cases e2
        exact ⟨u, r, .inl ⟨hk, by simp⟩⟩
      · rw [List.getElem?_set_ne (Ne.symm hj)] at e2
        obtain ⟨u', r', q⟩ := hl j y v' e1 e2 e3
        refine ⟨u', r', ?_⟩
        rcases q with ⟨k, e⟩ | ⟨k, c, e, z⟩
        · refine .inl ⟨k, ?_⟩
          have : y ≠ x := fun e => hj (nodup_ix hN e1 (e ▸ hi))
          simp [this, e]
        · exact .inr ⟨k, c, e, z.sameBut hs (cne y c e)⟩
    · obtain ⟨w', z⟩ := I.cell y c e
      exact ⟨w', z.sameBut hs (cne y c e)⟩
    · obtain ⟨e, n, ne, nf, d⟩ := I.pin p hp
      exact ⟨(hs.2 p.1 ne).trans e, n, ne, nf, d⟩
  · have hfn : X.fn x = true := by
      rcases hf with z | z
      · exact z
      · rw [z] at hk; cases hk
    obtain ⟨c, hc⟩ := I.ok.has x (.inl hk)
    obtain ⟨w', z⟩ := I.cell x c hc
    refine wpAny_storeName_cell I.ok.kind hk hc z (fun h' hc' hs => ?_)
    obtain ⟨oc, hoc, hocd⟩ := id z
    refine h { s with heap := h' } ⟨I.ok, I.os, I.bare, ⟨fun b o e n hb hx => ?_, fun b o e n hb hx => ?_, I.base.free, fun b o e hx => ?_, I.base.tups, I.base.frzs, I.base.tbls⟩, ⟨m, hn.sameBut hs (Ne.symm (cne x c hc)), fun j y v' e1 e2 e3 => ?_⟩, fun y c' e => ?_, I.free, I.freeC, fun p hp => ?_, tracked ⟨oc, hoc, I.freeC x c hc⟩ hs, by simpa using I.len⟩ ⟨c, hs, .inr hc⟩
    · exact (hs.2 b (Nat.ne_of_lt (Nat.lt_of_lt_of_le (Heap.lt_size e) (I.ok.cab x c hfn hc)))).trans (I.base.keep b o e n hb hx)
    · obtain ⟨sl, e1⟩ := I.base.slot b o e n hb hx
      exact ⟨sl, (hs.2 b (Nat.ne_of_lt (Nat.lt_of_lt_of_le (Heap.lt_size e) (I.ok.cab x c hfn hc)))).trans e1⟩
    · obtain ⟨o', e1⟩ := I.base.there b o e hx
      exact ⟨o', (hs.2 b (Nat.ne_of_lt (Nat.lt_of_lt_of_le (Heap.lt_size e) (I.ok.cab x c hfn hc)))).trans e1⟩
    · by_cases hj : j = i
      · subst hj
        rw [hi] at e1; cases e1
        rw [List.getElem?_set_self hiσ] at e2
        cases e2
        exact ⟨u, r, .inr ⟨.inl hk, c, hc, hc'⟩⟩
      · rw [List.getElem?_set_ne (Ne.symm hj)] at e2
        obtain ⟨u', r', q⟩ := hl j y v' e1 e2 e3
        refine ⟨u', r', ?_⟩
        rcases q with q | ⟨k, c', e, z'⟩
        · exact .inl q
        · refine .inr ⟨k, c', e, z'.sameBut hs ?_⟩
          rintro rfl
          exact hj (nodup_ix hN e1 (I.ok.inj _ _ _ e hc ▸ hi))
    · by_cases hcc : c' = c
      · subst hcc; exact ⟨_, hc'⟩
      · obtain ⟨w2, z2⟩ := I.cell y c' e
        exact ⟨w2, z2.sameBut hs hcc⟩
    · obtain ⟨e, n, ne, nf, d⟩ := I.pin p hp
      refine ⟨(hs.2 p.1 ?_).trans e, n, ne, nf, d⟩
      intro q
      rw [q, hoc] at e
      have q' : oc = p.2 := Option.some.inj e
      exact d w' (by rw [← q']; exact hocd)
theorem store_ok {M : Model} {A : Around} {E : Value → Shared → Prop} {i : Nat} {x : Str} {v : V} {u : Value} {Q : Unit → Shared → Prop} (I : Inv X pins σ H s) (hN : X.N.Nodup) (hi : X.N[i]? = some x) (hx : Loc X.env.scope x) (r : RelV v u)
    (h : ∀ s', Inv X pins (σ.set i (some v)) H s' → Q () s') (hf : X.fn x = true ∨ X.env.scope.names.lookup x = some .local := by first | exact .inl rfl | exact .inr rfl | assumption) : wpAny M A (storeName X.env x u) Q E s :=
  store_ok2 I hN hi hx r (fun s' I' _ => h s' I') hf
theorem Inv.call' {s' : Shared} {ch : List Addr} (I : Inv X pins σ H s) (ho : s'.os = s.os) (u : Un (frs X.stack) ch H H' s.heap s'.heap) (hok : HOk X.prog X.w H' s'.heap) (hg : AllBare s'.gens)
    (hch : ∀ b ∈ ch, (b ∈ X.ex ∨ X.s_0.heap.objs.size ≤ b) ∧ b ≠ X.env.locals ∧ (∀ x c, X.env.cells.lookup x = some c → c ≠ b) ∧ ∀ p ∈ X.pn ++ pins, p.1 ≠ b) : Inv X pins σ H' s' := by
  obtain ⟨h', g', d', t', o'⟩ := s'
  have e : o' = s.os := ho
  subst e
  exact I.call (g' := g') (t' := t') (d' := d') u hok hg hch
end
abbrev XK := Value → Option Addr → Hp → Prop
abbrev St := List (Option V)
abbrev VK := V → Hp → Prop
abbrev TE := St → Hp → VK → Prop
abbrev TT := St → Hp → (Bool → Hp → Prop) → Prop
abbrev TA := St → Hp → (List V → Hp → Prop) → Prop
structure Ends where
  nx : St → Hp → Prop
  rt : VK
  bk : St → Hp → Prop := fun _ _ => False
  ct : St → Hp → Prop := fun _ _ => False
abbrev TS := Ends → St → Hp → Prop
def EP (X : Cx) (pins : List (Addr × Obj)) (σ : St) (Q : VK) (u : Value) (s' : Shared) : Prop := ∃ v H', Inv X pins σ H' s' ∧ RelV v u ∧ Q v H'
def TP (X : Cx) (pins : List (Addr × Obj)) (σ : St) (Q : Bool → Hp → Prop) (b : Bool) (s' : Shared) : Prop := ∃ H', Inv X pins σ H' s' ∧ Q b H'
def AP (X : Cx) (pins : List (Addr × Obj)) (σ : St) (Q : List V → Hp → Prop) (us : List Value) (s' : Shared) : Prop := ∃ vs H', Inv X pins σ H' s' ∧ Vals vs us ∧ Q vs H'
def SP (X : Cx) (pins : List (Addr × Obj)) (D : Ends) (f : Flow) (s' : Shared) : Prop :=
  match f with
  | .next => ∃ σ' H', Inv X pins σ' H' s' ∧ D.nx σ' H'
  | .brk => ∃ σ' H', Inv X pins σ' H' s' ∧ D.bk σ' H'
  | .cont => ∃ σ' H', Inv X pins σ' H' s' ∧ D.ct σ' H'
  | .ret u => ∃ v σ' H', Inv X pins σ' H' s' ∧ RelV v u ∧ D.rt v H'
def PE (X : Cx) (e : Expr) (t : TE) : Prop :=
  ∀ (pins : List (Addr × Obj)) (s : Shared) (σ : St) (H : Hp) (Q : VK), Inv X pins σ H s → t σ H Q → wpAny (model X.prog X.w) X.A (eval e X.env) (EP X pins σ Q) X.xe s
def PT (X : Cx) (e : Expr) (t : TT) : Prop :=
  ∀ (pins : List (Addr × Obj)) (s : Shared) (σ : St) (H : Hp) (Q : Bool → Hp → Prop), Inv X pins σ H s → t σ H Q → wpAny (model X.prog X.w) X.A (isTrue e X.env (eval e X.env)) (TP X pins σ Q) X.xe s
def PW (X : Cx) (e : Expr) (t : TT) : Prop :=
  ∀ (whole : Sem Value) (pins : List (Addr × Obj)) (s : Shared) (σ : St) (H : Hp) (Q : Bool → Hp → Prop), Inv X pins σ H s → t σ H Q → wpAny (model X.prog X.w) X.A (isTrue e X.env whole) (TP X pins σ Q) X.xe s
theorem PW.pt {X : Cx} {e : Expr} {t : TT} (h : PW X e t) : PT X e t := h _
def PA (X : Cx) (es : List Expr) (t : TA) : Prop :=
  ∀ (pos : Pos) (pins : List (Addr × Obj)) (s : Shared) (σ : St) (H : Hp) (Q : List V → Hp → Prop), Inv X pins σ H s → t σ H Q → wpAny (model X.prog X.w) X.A (spliced (backTo pos (starEach es X.env))) (AP X pins σ Q) X.xe s
def PS (X : Cx) (st : Stmt) (t : TS) : Prop :=
  ∀ (pins : List (Addr × Obj)) (s : Shared) (σ : St) (H : Hp) (D : Ends), Inv X pins σ H s → t D σ H → wpAny (model X.prog X.w) X.A (exec st X.env) (SP X pins D) X.xe s
def PSs (X : Cx) (st : List Stmt) (t : TS) : Prop :=
  ∀ (pins : List (Addr × Obj)) (s : Shared) (σ : St) (H : Hp) (D : Ends), Inv X pins σ H s → t D σ H → wpAny (model X.prog X.w) X.A (execs st X.env) (SP X pins D) X.xe s
theorem thn {α : Type} {t : Sem α} {Q Q' : α → Shared → Prop} {M : Model} {A : Around} {E : Value → Shared → Prop} {s : Shared} (h : wpAny M A t Q E s) (hQ : ∀ a s, Q a s → Q' a s) : wpAny M A t Q' E s := wpAny_mono h hQ fun _ _ x => x
end L2
namespace L2
open PySem PySem.Spec PyProof.Rows
section
variable {X : Cx}
def tVar (i : Nat) : TE := fun σ H Q => ∃ v, σ[i]? = some (some v) ∧ Q v H
def tC (v : V) : TE := fun _ H Q => Q v H
theorem pe_var {i : Nat} {x : Str} {pos : Pos} (hN : X.N[i]? = some x) (hv : Vis X.env.scope x) (hd : (x == ("__debug__" : Str)) = false := by decide) (hcd : (x == ("__classdict__" : Str)) = false := by decide) : PE X (.Name x pos) (tVar i) := by
  intro pins s σ H Q I h
  obtain ⟨v, e, h⟩ := h
  obtain ⟨m, hn, hl⟩ := I.loc
  obtain ⟨u, r, l⟩ := hl i x v hN e hv
  have fin : EP X pins σ Q u s := ⟨v, H, I, r, h⟩
  rcases l with ⟨hk, hm⟩ | ⟨hk, c, hc, hcell⟩
  · exact wpAny_Name (wpAny_loadName_local I.ok.kind hk hn hm fin) hd
  · rcases hk with hk | hk
    · exact wpAny_Name (wpAny_loadName_cell I.ok.kind hk hc hcell fin) hd
    · exact wpAny_Name (wpAny_loadName_free I.ok.kind hk hc hcell fin hcd) hd
theorem pe_int {i j pos} : PE X (.Constant (.int i) j pos) (tC (.int i)) := fun _ _ _ H _ I h => wpAny_Constant_int ⟨.int i, H, I.tok _, ⟨_, rfl⟩, h⟩
theorem pe_bl {b j pos} : PE X (.Constant (.bool b) j pos) (tC (.bl b)) := fun _ _ _ H _ I h => Constant_bool ⟨.bl b, H, I, rfl, h⟩
def Gl (X : Cx) (x : Str) : Prop := X.env.kindOf x = some .globalImplicit
theorem ld_glob {E : Value → Shared → Prop} {pins : List (Addr × Obj)} {s : Shared} {σ : St} {H : Hp} {x : Str} {u : Value} {pos : Pos} {Q : Value → Shared → Prop} (I : Inv X pins σ H s) (hg : Gl X x) (hm : X.mg x = some u) (h : Q u s)
    (hd : (x == ("__debug__" : Str)) = false := by decide) : wpAny (model X.prog X.w) X.A (eval (.Name x pos) X.env) Q E s :=
  Calls.Name_function_global I.ok.kind hg (Calls.loadGlobal_global (by rw [I.ok.glob]; exact I.mod.glob.keeps I.bk) hm h) hd
theorem ld_blt {E : Value → Shared → Prop} {pins : List (Addr × Obj)} {s : Shared} {σ : St} {H : Hp} {x : Str} {u : Value} {pos : Pos} {Q : Value → Shared → Prop} (I : Inv X pins σ H s) (hg : Gl X x) (hm : X.mg x = none) (hv : bootBuiltins x = some u) (h : Q u s)
    (hn : x ≠ "__name__" := by decide) (hd : (x == ("__debug__" : Str)) = false := by decide) : wpAny (model X.prog X.w) X.A (eval (.Name x pos) X.env) Q E s := by
  obtain ⟨mb, h1, h2⟩ := I.mod.blt
  exact Calls.Name_function_global I.ok.kind hg (Calls.loadGlobal_builtin (by rw [I.ok.glob]; exact I.mod.glob.keeps I.bk) hm (by rw [I.ok.blt]; exact h1.keeps I.bk) ((h2 x hn).trans hv) h) hd
theorem pe_glob {x : Str} {v : V} {u : Value} {pos : Pos} (hg : Gl X x) (hm : X.mg x = some u) (r : RelV v u) (hd : (x == ("__debug__" : Str)) = false := by decide) : PE X (.Name x pos) (tC v) :=
  fun _ _ _ H _ I h => ld_glob I hg hm ⟨v, H, I, r, h⟩ hd
variable {a b : Expr} {ta tb : TE} {pos : Pos}
def PC (X : Cx) (op : CmpOp) (a b : Expr) (t : TE) : Prop :=
  ∀ (pins : List (Addr × Obj)) (s : Shared) (σ : St) (H : Hp) (Q : VK), Inv X pins σ H s → t σ H Q →
    wpAny (model X.prog X.w) X.A (eval a X.env) (fun v s₁ => wpAny (model X.prog X.w) X.A (eval b X.env) (fun u s₂ => wpAny (model X.prog X.w) X.A (compareOp op v u) (EP X pins σ Q) X.xe s₂) X.xe s₁) X.xe s
def tB (t : TE) : TT := fun σ H Q => t σ H fun x H1 => ∃ c, x = .bl c ∧ Q c H1
theorem pt_cmp {op : CmpOp} {t : TE} (h : PC X op a b t) (h1 : behindInMarks op b = false := by first | exact nobehind _ (by decide) (by decide) | rfl) : PT X (.Compare a [op] [b] pos) (tB t) := by
  intro pins s σ H Q I hw
  refine wpAny_isTrue_Compare1 (thn (h pins s σ H _ I hw) fun v s1 h1 => thn h1 fun u s2 h2 => thn h2 fun c s3 ⟨x, H1, I1, r1, q1⟩ => ?_) h1
  obtain ⟨d, rfl, q⟩ := q1
  cases r1
  exact wpAny_truthy_bool ⟨H1, I1, q⟩
theorem pt_val {e : Expr} {t : TE} (h : PE X e t) (he : ∀ whole, isTrue e X.env whole = (do let v ← whole; standAt e.pos; holding [v] (truthy v)) := by intro _; rfl) : PT X e (tB t) := by
  intro pins s σ H Q I hw
  refine isTrue_plain (thn (h pins s σ H _ I hw) fun v s1 ⟨x, H1, I1, r1, q1⟩ => ?_) (he _)
  obtain ⟨d, rfl, q⟩ := q1
  cases r1
  exact wpAny_truthy_bool ⟨H1, I1, q⟩
variable {tA tB' : TT} {rest : List Expr}
def tAnd (t u : TT) : TT := fun σ H Q => t σ H fun c H1 => if c = true then u σ H1 Q else Q false H1
def tOr (t u : TT) : TT := fun σ H Q => t σ H fun c H1 => if c = true then Q true H1 else u σ H1 Q
def tNot (t : TT) : TT := fun σ H Q => t σ H fun c H1 => Q (!c) H1
theorem pw_and1 (ha : PT X a tA) : PW X (.BoolOp .And [a] pos) tA := by
  intro wh pins s σ H Q I h
  refine isTrue_and (thn (ha pins s σ H Q I h) fun c s1 e => ?_)
  cases c with
  | true => exact isTrue_and_nil e
  | false => exact e
theorem pw_or1 (ha : PT X a tA) : PW X (.BoolOp .Or [a] pos) tA := by
  intro wh pins s σ H Q I h
  refine isTrue_or (thn (ha pins s σ H Q I h) fun c s1 e => ?_)
  cases c with
  | false => exact isTrue_or_nil e
  | true => exact e
theorem pw_and (ha : PT X a tA) (hb : PW X (.BoolOp .And (b :: rest) pos) tB') : PW X (.BoolOp .And (a :: b :: rest) pos) (tAnd tA tB') := by
  intro wh pins s σ H Q I h
  refine isTrue_and (thn (ha pins s σ H _ I h) fun c s1 ⟨H1, I1, q1⟩ => ?_)
  cases c with
  | true => exact hb wh pins s1 σ H1 Q I1 q1
  | false => exact ⟨H1, I1, q1⟩
theorem pw_or (ha : PT X a tA) (hb : PW X (.BoolOp .Or (b :: rest) pos) tB') : PW X (.BoolOp .Or (a :: b :: rest) pos) (tOr tA tB') := by
  intro wh pins s σ H Q I h
  refine isTrue_or (thn (ha pins s σ H _ I h) fun c s1 ⟨H1, I1, q1⟩ => ?_)
  cases c with
  | true => exact ⟨H1, I1, q1⟩
  | false => exact hb wh pins s1 σ H1 Q I1 q1
theorem pt_not (ha : PT X a tA) : PT X (.UnaryOp .Not a pos) (tNot tA) := by
  intro pins s σ H Q I h
  exact isTrue_not (ha pins s σ H (fun c H1 => Q (!c) H1) I h)
def tAndV (ta tb : TE) : TE := fun σ H Q => ta σ H fun x H1 => ∃ c, x = .bl c ∧ if c = true then tb σ H1 Q else Q (.bl false) H1
def tOrV (ta tb : TE) : TE := fun σ H Q => ta σ H fun x H1 => ∃ c, x = .bl c ∧ if c = true then Q (.bl true) H1 else tb σ H1 Q
theorem pe_one {op} {t : TE} (h : PE X a t) : PE X (.BoolOp op [a] pos) t := fun pins s σ H Q I hw => BoolOp_one (h pins s σ H Q I hw)
theorem pe_and (ha : PE X a ta) (hb : PE X (.BoolOp .And (b :: rest) pos) tb) : PE X (.BoolOp .And (a :: b :: rest) pos) (tAndV ta tb) := by
  intro pins s σ H Q I h
  refine BoolOp_and (thn (ha pins s σ H _ I h) fun v s1 ⟨x, H1, I1, r1, q1⟩ => ?_)
  obtain ⟨c, rfl, q1⟩ := q1
  cases r1
  refine wpAny_truthy_bool ?_
  cases c with
  | true => exact hb pins s1 σ H1 Q I1 q1
  | false => exact ⟨.bl false, H1, I1, rfl, q1⟩
theorem pe_or (ha : PE X a ta) (hb : PE X (.BoolOp .Or (b :: rest) pos) tb) : PE X (.BoolOp .Or (a :: b :: rest) pos) (tOrV ta tb) := by
  intro pins s σ H Q I h
  refine BoolOp_or (thn (ha pins s σ H _ I h) fun v s1 ⟨x, H1, I1, r1, q1⟩ => ?_)
  obtain ⟨c, rfl, q1⟩ := q1
  cases r1
  refine wpAny_truthy_bool ?_
  cases c with
  | false => exact hb pins s1 σ H1 Q I1 q1
  | true => exact ⟨.bl true, H1, I1, rfl, q1⟩
def tIf (t : TT) (ta tb : TE) : TE := fun σ H Q => t σ H fun c H1 => if c = true then ta σ H1 Q else tb σ H1 Q
theorem pe_ifExp {c : Expr} (hc : PT X c tA) (ha : PE X a ta) (hb : PE X b tb) : PE X (.IfExp c a b pos) (tIf tA ta tb) := by
  intro pins s σ H Q I h
  refine wpAny_IfExp (thn (hc pins s σ H _ I h) fun d s1 ⟨H1, I1, q1⟩ => ?_)
  cases d with
  | true => exact ha pins s1 σ H1 Q I1 q1
  | false => exact hb pins s1 σ H1 Q I1 q1
end
end L2
namespace L2
open PySem PySem.Spec PyProof.Rows
def SqL (K : PySem.W.Frag) (H : Hp) (a : Addr) (xs : List V) : Prop :=
  Rd H a (.lst xs) ∨
    ∃ (o : Obj) (its : Array Value) (n : Nat), K.lookup a = some o ∧ o.cls = .type "list" ∧ o.dict = none ∧ o.data = .seq its n ∧ its.size ≤ sizeLine ∧ Vals xs its.toList
def SqT (K : PySem.W.Frag) (H : Hp) (a : Addr) (xs : List V) : Prop :=
  Rd H a (.tup xs) ∨
    ∃ (o : Obj) (its : Array Value) (n : Nat), K.lookup a = some o ∧ o.cls = .type "tuple" ∧ o.data = .seq its n ∧ its.size ≤ sizeLine ∧ Vals xs its.toList
def absV : Value → Option V
  | .none => some .non
  | .bool b => some (.bl b)
  | .int i _ => some (.int i)
  | .str x _ => some (.str x)
  | .bytes b _ => some (.byt b)
  | .float b _ => some (.flt b)
  | .ref a => some (.ref a)
  | .type n => some (.ty n)
  | _ => none
theorem RelV.abs {x : V} {u : Value} (r : RelV x u) : absV u = some x := by
  cases x with
  | non => cases r; rfl
  | bl _ => cases r; rfl
  | int _ => obtain ⟨t, rfl⟩ := r; rfl
  | str _ => obtain ⟨t, rfl⟩ := r; rfl
  | byt _ => obtain ⟨t, rfl⟩ := r; rfl
  | flt _ => obtain ⟨t, rfl⟩ := r; rfl
  | ref _ => cases r; rfl
  | ty _ => cases r; rfl
theorem RelV.inj {x y : V} {u : Value} (r : RelV x u) (q : RelV y u) : x = y := Option.some.inj (r.abs.symm.trans q.abs)
theorem Vals.inj : ∀ {xs ys : List V} {us : List Value}, Vals xs us → Vals ys us → xs = ys
  | _, _, _, .nil, .nil => rfl
  | _, _, _, .cons r t, .cons r' t' => by rw [r.inj r', Vals.inj t t']
section
variable {X : Cx} {pins : List (Addr × Obj)} {σ : St} {H : Hp} {s : Shared} {a : Addr} {xs ys : List V}
theorem SqL.of {K : PySem.W.Frag} (h : H a = some (.lst xs)) : SqL K H a xs := .inl (.inl h)
theorem SqT.of {K : PySem.W.Frag} (h : H a = some (.tup xs)) : SqT K H a xs := .inl (.inl h)
theorem Inv.list (I : Inv X pins σ H s) (h : SqL X.K H a xs) : ∃ its : List Value, Vals xs its ∧ PlainL s.heap a its.toArray ∧ xs.length ≤ sizeLine := by
  rcases h with h | ⟨o, its, n, hk, hc, hd, hs, hz, r⟩
  · obtain ⟨z, its, n, r, e⟩ := h.ok I.hok
    exact ⟨its, r, ⟨_, n, e, rfl, rfl, rfl⟩, z⟩
  · refine ⟨its.toList, r, ⟨o, n, I.kIn a o hk, hc, hd, by simpa using hs⟩, ?_⟩
    have e := r.length
    simp only [Array.length_toList] at e
    omega
theorem Inv.tuple (I : Inv X pins σ H s) (h : SqT X.K H a xs) : ∃ its : List Value, Vals xs its ∧ IsTup s.heap a its.toArray ∧ xs.length ≤ sizeLine := by
  rcases h with h | ⟨o, its, n, hk, hc, hs, hz, r⟩
  · obtain ⟨z, its, r, p⟩ := h.ok I.hok
    exact ⟨its, r, p, z⟩
  · refine ⟨its.toList, r, ⟨o, I.kIn a o hk, hc, n, by simpa using hs⟩, ?_⟩
    have e := r.length
    simp only [Array.length_toList] at e
    omega
theorem Inv.list_inj (I : Inv X pins σ H s) (h : SqL X.K H a xs) (h' : SqL X.K H a ys) : xs = ys := by
  obtain ⟨its, r, ⟨o, n, e, _, _, d⟩, _⟩ := I.list h
  obtain ⟨its', r', ⟨o', n', e', _, _, d'⟩, _⟩ := I.list h'
  rw [e] at e'; cases e'
  rw [d] at d'
  injection d' with d1 _
  have : its = its' := by simpa using congrArg Array.toList d1
  subst this
  exact r.inj r'
theorem Inv.tuple_inj (I : Inv X pins σ H s) (h : SqT X.K H a xs) (h' : SqT X.K H a ys) : xs = ys := by
  obtain ⟨its, r, ⟨o, e, _, n, d⟩, _⟩ := I.tuple h
  obtain ⟨its', r', ⟨o', e', _, n', d'⟩, _⟩ := I.tuple h'
  rw [e] at e'; cases e'
  rw [d] at d'
  injection d' with d1 _
  have : its = its' := by simpa using congrArg Array.toList d1
  subst this
  exact r.inj r'
end
abbrev Cx.wish (X : Cx) (E : Value → Shared → Prop) : Cx := { X with xe := E }
abbrev Cx.nox (X : Cx) : Cx := X.wish fun _ _ => False
theorem Cx.Ok.wish {X : Cx} (ok : X.Ok) (E : Value → Shared → Prop) : (X.wish E).Ok :=
  ⟨ok.mod, ok.kind, ok.glob, ok.blt, ok.above, ok.inj, ok.has, ok.cab, ok.hd, ok.frames, ok.stk, ok.exf, ok.bs, ok.bsz, ok.noex, ok.exfs, ok.funs, ok.frf⟩
theorem Cx.Ok.unwish {X : Cx} {E : Value → Shared → Prop} (ok : (X.wish E).Ok) : X.Ok :=
  ⟨ok.mod, ok.kind, ok.glob, ok.blt, ok.above, ok.inj, ok.has, ok.cab, ok.hd, ok.frames, ok.stk, ok.exf, ok.bs, ok.bsz, ok.noex, ok.exfs, ok.funs, ok.frf⟩
section
variable {X : Cx} {pins : List (Addr × Obj)} {σ : St} {H : Hp} {s : Shared} {E : Value → Shared → Prop}
theorem Inv.wish (I : Inv X pins σ H s) (E : Value → Shared → Prop) : Inv (X.wish E) pins σ H s := ⟨I.ok.wish E, I.os, I.bare, I.base, I.loc, I.cell, I.free, I.freeC, I.pin, I.hok, I.len⟩
theorem Inv.unwish (I : Inv (X.wish E) pins σ H s) : Inv X pins σ H s := ⟨I.ok.unwish, I.os, I.bare, I.base, I.loc, I.cell, I.free, I.freeC, I.pin, I.hok, I.len⟩
theorem SP.unwish {D : Ends} {f : Flow} {s' : Shared} (h : SP (X.wish E) pins D f s') : SP X pins D f s' := by
  cases f with
  | next => obtain ⟨σ', H', I, q⟩ := h; exact ⟨σ', H', I.unwish, q⟩
  | brk => obtain ⟨σ', H', I, q⟩ := h; exact ⟨σ', H', I.unwish, q⟩
  | cont => obtain ⟨σ', H', I, q⟩ := h; exact ⟨σ', H', I.unwish, q⟩
  | ret u => obtain ⟨v, σ', H', I, r, q⟩ := h; exact ⟨v, σ', H', I.unwish, r, q⟩
theorem PSs.nox {st : List Stmt} {t : TS} (h : PSs X.nox st t) : PSs X st t := fun pins s σ H D I hw =>
  wpAny_mono (h pins s σ H D (I.wish _) hw) (fun _ _ q => q.unwish) fun _ _ z => False.elim z
end
section
variable {X : Cx} {st : Stmt} {rest : List Stmt} {t u : TS} {e : Expr} {te : TE} {pos : Pos}
def tNext : TS := fun D σ H => D.nx σ H
def tSeq (t u : TS) : TS := fun D σ H => t { D with nx := u D } σ H
theorem pss_nil : PSs X [] tNext := fun _ _ σ H _ I h => wpAny_execs_nil ⟨σ, H, I, h⟩
theorem pss_cons (h1 : PS X st t) (h2 : PSs X rest u) : PSs X (st :: rest) (tSeq t u) := by
  intro pins s σ H D I h
  refine wpAny_execs_cons (thn (h1 pins s σ H { D with nx := u D } I h) fun f s1 q => ?_)
  cases f with
  | next =>
    obtain ⟨σ', H', I', q⟩ := q
    exact h2 pins s1 σ' H' D I' q
  | ret v => exact q
  | brk => exact q
  | cont => exact q
theorem pss_one (h1 : PS X st t) : PSs X [st] t := by
  intro pins s σ H D I h
  refine wpAny_execs_cons (thn (h1 pins s σ H D I h) fun f s1 q => ?_)
  cases f with
  | next => exact wpAny_execs_nil q
  | ret v => exact q
  | brk => exact q
  | cont => exact q
theorem Inv.quiet {pins : List (Addr × Obj)} {σ : St} {H : Hp} {s : Shared} (I : Inv X pins σ H s) : interactive X.env = false := by simp [interactive, I.ok.kind]
def tDrop (te : TE) : TS := fun D σ H => te σ H fun _ H1 => D.nx σ H1
theorem ps_expr (he : PE X e te) (hs : swapsWith e none pos.line X.env = pure false := by rfl) : PS X (.Expr e pos) (tDrop te) := by
  intro pins s σ H D I h
  exact wpAny_Expr_any (thn (he pins s σ H _ I h) fun v s1 ⟨x, H1, I1, r1, q1⟩ => ⟨σ, H1, I1, q1⟩) I.quiet hs
def tRet (te : TE) : TS := fun D σ H => te σ H D.rt
theorem ps_ret (he : PE X e te) : PS X (.Return (some e) pos) (tRet te) := by
  intro pins s σ H D I h
  exact wpAny_Return_some (thn (he pins s σ H _ I h) fun v s1 ⟨x, H1, I1, r1, q1⟩ => ⟨x, σ, H1, I1, r1, q1⟩)
def tIfS (c : TT) (t u : TS) : TS := fun D σ H => c σ H fun b H1 => if b = true then t D σ H1 else u D σ H1
theorem ps_if {c : Expr} {a b : List Stmt} {tc : TT} (hc : PT X c tc) (ha : PSs X a t) (hb : PSs X b u) : PS X (.If c a b pos) (tIfS tc t u) := by
  intro pins s σ H D I h
  refine wpAny_If (thn (hc pins s σ H _ I h) fun d s1 ⟨H1, I1, q1⟩ => ?_)
  cases d with
  | true => exact ha pins s1 σ H1 D I1 q1
  | false => exact hb pins s1 σ H1 D I1 q1
end
abbrev TG := V → St → Hp → (St → Hp → Prop) → Prop
abbrev TGs := List V → St → Hp → (St → Hp → Prop) → Prop
def PG (X : Cx) (target : Expr) (t : TG) : Prop :=
  ∀ (pins : List (Addr × Obj)) (s : Shared) (σ : St) (H : Hp) (v : V) (u : Value) (Q : St → Hp → Prop), Inv X pins σ H s → RelV v u → t v σ H Q →
    wpAny (model X.prog X.w) X.A (assign target X.env u) (fun _ s' => ∃ σ' H', Inv X pins σ' H' s' ∧ Q σ' H') X.xe s
def PGs (X : Cx) (ts : List Expr) (t : TGs) : Prop :=
  ∀ (pins : List (Addr × Obj)) (s : Shared) (σ : St) (H : Hp) (vs : List V) (us : List Value) (Q : St → Hp → Prop), Inv X pins σ H s → Vals vs us → t vs σ H Q →
    wpAny (model X.prog X.w) X.A (assignInOrder ((assignEach ts X.env).map (·.2)) us) (fun _ s' => ∃ σ' H', Inv X pins σ' H' s' ∧ Q σ' H') X.xe s
abbrev TSet := V → V → V → Hp → (Hp → Prop) → Prop
def PSet (X : Cx) (t : TSet) : Prop :=
  ∀ (pins : List (Addr × Obj)) (s : Shared) (σ : St) (H : Hp) (o i v : V) (ov iv u : Value) (Q : Hp → Prop), Inv X pins σ H s → RelV o ov → RelV i iv → RelV v u → t o i v H Q →
    wpAny (model X.prog X.w) X.A (setItem ov iv u) (fun _ s' => ∃ H', Inv X pins σ H' s' ∧ Q H') X.xe s
abbrev TIp := V → V → Hp → VK → Prop
def PIp (X : Cx) (op : Operator) (t : TIp) : Prop :=
  ∀ (pins : List (Addr × Obj)) (s : Shared) (σ : St) (H : Hp) (x y : V) (v u : Value) (Q : VK), Inv X pins σ H s → RelV x v → RelV y u → t x y H Q →
    wpAny (model X.prog X.w) X.A (inplaceOp op v u) (EP X pins σ Q) X.xe s
section
variable {X : Cx} {pos : Pos}
def gName (i : Nat) : TG := fun v σ H Q => Q (σ.set i (some v)) H
theorem pg_name {i : Nat} {x : Str} (hN : X.N.Nodup) (hi : X.N[i]? = some x) (hx : Loc X.env.scope x) (hf : X.fn x = true ∨ X.env.scope.names.lookup x = some .local := by first | exact .inl rfl | exact .inr rfl | assumption) : PG X (.Name x pos) (gName i) := by
  intro pins s σ H v u Q I r h
  exact wpAny_assign_Name (store_ok I hN hi hx r (fun s' I' => ⟨_, H, I', h⟩) hf)
def gNil : TGs := fun vs σ H Q => vs = [] ∧ Q σ H
def gCons (t : TG) (u : TGs) : TGs := fun vs σ H Q => ∃ v r, vs = v :: r ∧ t v σ H fun σ' H' => u r σ' H' Q
theorem pgs_nil : PGs X [] gNil := by
  intro pins s σ H vs us Q I r h
  obtain ⟨e, h⟩ := h
  subst e
  cases r
  exact assignInOrder_nil ⟨σ, H, I, h⟩
theorem pgs_cons {e : Expr} {es : List Expr} {t : TG} {u : TGs} (h1 : PG X e t) (h2 : PGs X es u)
    (hs : (assignEach (e :: es) X.env).map (·.2) = assign e X.env :: (assignEach es X.env).map (·.2) := by rfl) : PGs X (e :: es) (gCons t u) := by
  intro pins s σ H vs us Q I r h
  obtain ⟨v, vr, e1, h⟩ := h
  subst e1
  cases r with
  | cons r rr =>
    rw [hs]
    refine assignInOrder_cons (thn (h1 pins s σ H _ _ _ I r h) fun _ s1 ⟨σ1, H1, I1, q1⟩ => ?_)
    exact h2 pins s1 σ1 H1 _ _ Q I1 rr q1
def gTup (K : PySem.W.Frag) (n : Nat) (t : TGs) : TG := fun v σ H Q => ∃ a xs, v = .ref a ∧ SqT K H a xs ∧ xs.length = n ∧ t xs σ H Q
theorem pg_tup {es : List Expr} {k : Nat} {t : TGs} {n : Nat} (hc : X.calm = true) (h : PGs X es t)
    (hn : (assignEach es X.env).length = n := by rfl) (hst : (assignEach es X.env).findIdx? (·.1) = none := by rfl) : PG X (.Tuple es k pos) (gTup X.K n t) := by
  intro pins s σ H v u Q I r hw
  obtain ⟨a, xs, e1, hq, hl, hw⟩ := hw
  subst e1
  cases r
  obtain ⟨its, rv, ht, hz⟩ := I.tuple hq
  refine assign_Tuple_tuple (I.ok.hd hc) ht (by simp [hn, ← hl, rv.length]) hst fun h' hx => ?_
  have I1 : Inv X pins σ H { s with heap := h' } := I.kept (t' := s.toks) fun b o e => hx b o (Nat.ne_of_lt (Heap.lt_size e)) e
  exact h pins _ σ H xs _ Q I1 (by simpa using rv) hw
def gSub (to ti : TE) (t : TSet) : TG := fun v σ H Q => to σ H fun o H1 => ti σ H1 fun i H2 => t o i v H2 fun H3 => Q σ H3
theorem pg_sub {o i : Expr} {to ti : TE} {t : TSet} (ho : PE X o to) (hi : PE X i ti) (hs : PSet X t)
    (ha : ∀ v, assign (.Subscript o i pos) X.env v = (do
      let ov ← holding [v] (eval o X.env)
      let iv ← holding [v, ov] (eval i X.env)
      standAt pos
      holding [v, ov, iv] (setItem ov iv v)
      release [v, ov, iv] []) := by intro _; rfl) : PG X (.Subscript o i pos) (gSub to ti t) := by
  intro pins s σ H v u Q I r h
  rw [ha]
  refine wpAny_bind (wpAny_holding (thn (ho pins s σ H _ I h) fun ov s1 ⟨x, H1, I1, r1, q1⟩ => ?_))
  refine wpAny_bind (wpAny_holding (thn (hi pins s1 σ H1 _ I1 q1) fun iv s2 ⟨y, H2, I2, r2, q2⟩ => ?_))
  refine wpAny_bind (wpAny_standAt (wpAny_bind (wpAny_holding (thn (hs pins s2 σ H2 x y v ov iv u _ I2 r1 r2 r q2) fun _ s3 ⟨H3, I3, q3⟩ => ?_))))
  exact wpAny_release ⟨σ, H3, I3, q3⟩
def tAsg (te : TE) (g : TG) : TS := fun D σ H => te σ H fun x H1 => g x σ H1 D.nx
theorem ps_asg {tg e : Expr} {te : TE} {g : TG} (he : PE X e te) (hg : PG X tg g) (hs : swapsWithSole [tg] e pos.line X.env = pure false := by rfl) (hw : swappedStores [tg] e X.env = pure none := by rfl)
    (h1 : (assignEach [tg] X.env).map (·.2) = [assign tg X.env] := by rfl) : PS X (.Assign [tg] e pos) (tAsg te g) := by
  intro pins s σ H D I h
  refine wpAny_Assign_stores (thn (he pins s σ H _ I h) fun v s1 ⟨x, H1, I1, r1, q1⟩ => ?_) hs hw
  rw [h1]
  exact thn (hg pins s1 σ H1 x v _ I1 r1 q1) fun _ s2 q => q
theorem ps_set {i : Nat} {x : Str} {e : Expr} {te : TE} {pos' : Pos} (hN : X.N.Nodup) (hi : X.N[i]? = some x) (hx : Loc X.env.scope x) (he : PE X e te) (hs : swapsWith e (some (.Name x pos')) pos.line X.env = pure false := by rfl) (hf : X.fn x = true ∨ X.env.scope.names.lookup x = some .local := by first | exact .inl rfl | exact .inr rfl | assumption) :
    PS X (.Assign [.Name x pos'] e pos) (tAsg te (gName i)) := by
  intro pins s σ H D I h
  refine wpAny_Assign_Name (thn (he pins s σ H _ I h) fun v s1 ⟨y, H1, I1, r1, q1⟩ => ?_) hs
  exact store_ok I1 hN hi hx r1 (fun s2 I2 => ⟨_, H1, I2, q1⟩) hf
def tAug (i : Nat) (te : TE) (ti : TIp) : TS := fun D σ H => ∃ x, σ[i]? = some (some x) ∧ te σ H fun y H1 => ti x y H1 fun z H2 => D.nx (σ.set i (some z)) H2
theorem ps_aug {i : Nat} {x : Str} {e : Expr} {te : TE} {op : Operator} {ti : TIp} {pos' : Pos} (hN : X.N.Nodup) (hi : X.N[i]? = some x) (hx : Loc X.env.scope x) (he : PE X e te) (ho : PIp X op ti) (hf : X.fn x = true ∨ X.env.scope.names.lookup x = some .local := by first | exact .inl rfl | exact .inr rfl | assumption) :
    PS X (.AugAssign (.Name x pos') op e pos) (tAug i te ti) := by
  intro pins s σ H D I h
  obtain ⟨v, e1, h⟩ := h
  obtain ⟨m, hn, hl⟩ := I.loc
  have vis : Vis X.env.scope x := by rcases hx with k | k; exact .inl k; exact .inr (.inl k)
  obtain ⟨u, r, l⟩ := hl i x v hi e1 vis
  refine wpAny_AugAssign_Name ?_
  have go : wpAny (model X.prog X.w) X.A (eval e X.env) (fun w s₂ => wpAny (model X.prog X.w) X.A (inplaceOp op u w) (fun r s₃ => wpAny (model X.prog X.w) X.A (storeName X.env x r) (fun _ => SP X pins D .next) X.xe s₃) X.xe s₂) X.xe s := by
    refine thn (he pins s σ H _ I h) fun w s1 ⟨y, H1, I1, r1, q1⟩ => ?_
    refine thn (ho pins s1 σ H1 v y u w _ I1 r r1 q1) fun z s2 ⟨zv, H2, I2, r2, q2⟩ => ?_
    exact store_ok I2 hN hi hx r2 (fun s3 I3 => ⟨_, H2, I3, q2⟩) hf
  rcases l with ⟨hk, hm⟩ | ⟨hk, c, hc, hcell⟩
  · exact wpAny_loadName_local I.ok.kind hk hn hm go
  · rcases hk with hk | hk
    · exact wpAny_loadName_cell I.ok.kind hk hc hcell go
    · rcases hx with k | k
      · have : X.env.scope.names.lookup x = some .free := hk
        rw [k] at this; cases this
      · have : X.env.scope.names.lookup x = some .free := hk
        rw [k] at this; cases this
def tAugS (to ti te : TE) (tget : V → V → Hp → VK → Prop) (tip : TIp) (tset : TSet) : TS := fun D σ H => to σ H fun o H1 => ti σ H1 fun i H2 => tget o i H2 fun x H3 => te σ H3 fun y H4 => tip x y H4 fun z H5 => tset o i z H5 fun H6 => D.nx σ H6
def PGet (X : Cx) (t : V → V → Hp → VK → Prop) : Prop :=
  ∀ (pins : List (Addr × Obj)) (s : Shared) (σ : St) (H : Hp) (o i : V) (ov iv : Value) (Q : VK), Inv X pins σ H s → RelV o ov → RelV i iv → t o i H Q →
    wpAny (model X.prog X.w) X.A (getItem ov iv) (EP X pins σ Q) X.xe s
theorem ps_augS {o i e : Expr} {to ti te : TE} {tget : V → V → Hp → VK → Prop} {tip : TIp} {tset : TSet} {op : Operator} {tpos : Pos} (ho : PE X o to) (hi : PE X i ti) (hg : PGet X tget) (he : PE X e te) (hp : PIp X op tip) (hs : PSet X tset)
    (ha : ∀ ov iv new, augStore i ov iv new = (do holding [new, ov, iv] (setItem ov iv new); release [new, ov, iv] []; pure .next) := by intros; rfl) : PS X (.AugAssign (.Subscript o i tpos) op e pos) (tAugS to ti te tget tip tset) := by
  intro pins s σ H D I h
  refine wpAny_AugAssign_SubscriptAny (thn (ho pins s σ H _ I h) fun ov s1 ⟨x1, H1, I1, r1, q1⟩ => ?_) ha
  refine thn (hi pins s1 σ H1 _ I1 q1) fun iv s2 ⟨x2, H2, I2, r2, q2⟩ => ?_
  refine thn (hg pins s2 σ H2 x1 x2 ov iv _ I2 r1 r2 q2) fun old s3 ⟨x3, H3, I3, r3, q3⟩ => ?_
  refine thn (he pins s3 σ H3 _ I3 q3) fun v s4 ⟨x4, H4, I4, r4, q4⟩ => ?_
  refine thn (hp pins s4 σ H4 x3 x4 old v _ I4 r3 r4 q4) fun new s5 ⟨x5, H5, I5, r5, q5⟩ => ?_
  exact thn (hs pins s5 σ H5 x1 x2 x5 ov iv new _ I5 r1 r2 r5 q5) fun _ s6 ⟨H6, I6, q6⟩ => ⟨σ, H6, I6, q6⟩
def ipI (f : Int → Int → Int) : TIp := fun x y H Q => ∃ i j, x = .int i ∧ y = .int j ∧ Q (.int (f i j)) H
theorem ip_add : PIp X .Add (ipI fun i j => i + j) := by
  intro pins s σ H x y v u Q I r1 r2 h
  obtain ⟨i, j, e1, e2, q⟩ := h
  subst e1; subst e2
  obtain ⟨t, rfl⟩ := r1
  obtain ⟨t', rfl⟩ := r2
  exact iadd_int ⟨.int _, H, I.tok _, ⟨_, rfl⟩, q⟩
end
section
variable {X : Cx} {pos : Pos}
def tWhile (c : TT) (tb : TS) : TS := fun D σ H => ∃ W : Nat → St → Hp → Prop, (∃ m, W m σ H) ∧ ∀ m σ H, W m σ H →
  c σ H fun b H1 => if b = true then ∃ N : St → Hp → Prop, (∀ σ' H', N σ' H' → ∃ m', m' < m ∧ W m' σ' H') ∧ tb { D with nx := N, ct := N, bk := D.nx } σ H1 else D.nx σ H1
theorem ps_while {c : Expr} {body : List Stmt} {tc : TT} {tb : TS} (hp : PassesOwn (model X.prog X.w) X.A X.env X.xe) (hc : PT X c tc) (hb : PSs X body tb) : PS X (.While c body [] pos) (tWhile tc tb) := by
  intro pins s σ H D I h
  obtain ⟨W, ⟨m0, w0⟩, turn⟩ := h
  refine wpAny_While (codeAny_whileLoop (fun n s' => ∃ σ' H', Inv X pins σ' H' s' ∧ W n σ' H') ?_ m0 ⟨σ, H, I, w0⟩)
  rintro n s1 ⟨σ1, H1, I1, w1⟩
  refine wpAny_passesOwn hp (thn (hc pins s1 σ1 H1 _ I1 (turn n σ1 H1 w1)) fun b s2 ⟨H2, I2, q2⟩ => ?_)
  cases b with
  | true =>
    obtain ⟨N, hN, q2⟩ := q2
    rw [if_pos rfl]
    refine wpAny_passesOwn hp (thn (hb pins s2 σ1 H2 _ I2 q2) fun f s3 q3 => ?_)
    cases f with
    | next =>
      obtain ⟨σ3, H3, I3, n3⟩ := q3
      obtain ⟨m', hm, w3⟩ := hN σ3 H3 n3
      exact ⟨m', hm, σ3, H3, I3, w3⟩
    | cont =>
      obtain ⟨σ3, H3, I3, n3⟩ := q3
      obtain ⟨m', hm, w3⟩ := hN σ3 H3 n3
      exact ⟨m', hm, σ3, H3, I3, w3⟩
    | brk => exact q3
    | ret v => exact q3
  | false =>
    rw [if_neg Bool.false_ne_true]
    exact wpAny_execs_nil ⟨σ1, H2, I2, q2⟩
end
structure It where
  go : Nat → Hp → Prop
  yld : Nat → Hp → V → Hp → Prop
  stop : Nat → Hp → Prop
def FpOk (X : Cx) (pins : List (Addr × Obj)) (H : Hp) (b : Addr) : Prop :=
  H b = none ∧ b ≠ X.env.locals ∧ b ∉ X.fs ∧ (b ∈ X.ex ∨ X.s_0.heap.objs.size ≤ b) ∧ (∀ x c, X.env.cells.lookup x = some c → c ≠ b) ∧ ∀ p ∈ X.pn ++ pins, p.1 ≠ b
theorem Inv.fpOk {X : Cx} {pins : List (Addr × Obj)} {σ : St} {H H' : Hp} {s : Shared} {b : Addr} (I : Inv X pins σ H s) (hb : s.heap.objs.size ≤ b) (hn : H' b = none) : FpOk X pins H' b := by
  refine ⟨hn, Nat.ne_of_gt (Nat.lt_of_lt_of_le I.lt hb), I.nofs hb, .inr (Nat.le_trans I.sz hb), fun x c e z => ?_, fun p hp z => ?_⟩
  · obtain ⟨v, q⟩ := I.cell x c e
    exact absurd (Nat.lt_of_lt_of_le q.lt (by rw [z]; exact hb)) (Nat.lt_irrefl _)
  · exact absurd (Nat.lt_of_lt_of_le (Heap.lt_size (I.pin p hp).1) (by rw [z]; exact hb)) (Nat.lt_irrefl _)
structure Turn (P : Program) (w : World) (K : PySem.W.Frag) (tg : Expr) (J : It) (fp : List Addr) (it : Addr) (tn : Nat → Heap → Prop) : Prop where
  mem : it ∈ fp
  obj : ∀ i h, tn i h → ∀ b ∈ fp, ∃ o, h.get? b = some o ∧ ∀ v, o.data ≠ .cell v
  keep : ∀ i h h', tn i h → (∀ b ∈ fp, ∀ o, h.get? b = some o → h'.get? b = some o) → tn i h'
  item : ∀ (X : Cx), X.prog = P → X.w = w → X.K = K → X.calm = true → ∀ (i : Nat) (pins : List (Addr × Obj)) (s : Shared) (σ : St) (H : Hp) (E : Value → Shared → Prop), Inv X pins σ H s → (∀ b ∈ fp, FpOk X pins H b) → tn i s.heap → J.go i H →
    wpAny (model P w) X.A (pyNext (.ref it)) (fun r s1 => ∃ u, r = some u ∧
      wpAny (model P w) X.A (letOwnedTupleGo tg (.ref it) u) (fun _ s2 => ∃ x H', Inv X pins σ H' s2 ∧ RelV x u ∧ J.yld i H x H' ∧ tn (i + 1) s2.heap ∧ ∀ b ∈ fp, H' b = none) E s1) E s
  done : ∀ (X : Cx), X.prog = P → X.w = w → X.K = K → X.calm = true → ∀ (i : Nat) (pins : List (Addr × Obj)) (s : Shared) (σ : St) (H : Hp) (E : Value → Shared → Prop), Inv X pins σ H s → (∀ b ∈ fp, FpOk X pins H b) → tn i s.heap → J.stop i H →
    wpAny (model P w) X.A (pyNext (.ref it)) (fun r s1 => r = none ∧ Inv X pins σ H s1) E s
  self : ∀ (A : Around) (i : Nat) (s : Shared) (Q : Value → Shared → Prop) (E : Value → Shared → Prop), tn i s.heap → Q (.ref it) s → wpAny (model P w) A (pyIter (.ref it)) Q E s
abbrev TI := St → Hp → (It → Hp → Prop) → Prop
def PIE (X : Cx) (pins : List (Addr × Obj)) (σ : St) (tg : Expr) (R : It → Hp → Prop) (itv : Value) (s2 : Shared) : Prop :=
  ∃ (it : Addr) (fp : List Addr) (tn : Nat → Heap → Prop) (J : It) (H' : Hp), itv = .ref it ∧ Inv X pins σ H' s2 ∧ Turn X.prog X.w X.K tg J fp it tn ∧ tn 0 s2.heap ∧ (∀ b ∈ fp, FpOk X pins H' b) ∧ R J H'
def PI (X : Cx) (tg iter : Expr) (wi : TI) : Prop :=
  ∀ (pins : List (Addr × Obj)) (s : Shared) (σ : St) (H : Hp) (R : It → Hp → Prop), Inv X pins σ H s → wi σ H R →
    wpAny (model X.prog X.w) X.A (eval iter X.env) (fun v s1 => wpAny (model X.prog X.w) X.A (pyIter v) (PIE X pins σ tg R) X.xe s1) X.xe s
theorem go_of {M : Model} {A : Around} {E : Value → Shared → Prop} {s : Shared} {tg : Expr} {it : Addr} {u : Value} {o : Obj} {n : String} {vs : Array Value} {Q : Unit → Shared → Prop} (ho : s.heap.get? it = some o) (hc : o.cls = .type n) (hd : o.data = .fields vs)
    (hn : ["enumerate", "zip", "dict_itemiterator", "dict_reverseitemiterator", "odict_iterator", "itertools.zip_longest", "itertools.pairwise"].contains n = false) (hQ : Q () s) : wpAny M A (letOwnedTupleGo tg (.ref it) u) Q E s := by
  unfold letOwnedTupleGo
  cases tg <;> first
    | exact wpAny_pure hQ
    | (cases u <;> first
        | exact wpAny_pure hQ
        | (refine wpAny_bind (wpAny_load ho ?_)
           rw [hc, hd]
           show wpAny M A (if (["enumerate", "zip", "dict_itemiterator", "dict_reverseitemiterator", "odict_iterator", "itertools.zip_longest", "itertools.pairwise"].contains n && vs[0]? == some (rawInt _)) = true then _ else _) Q E s
           rw [if_neg (by intro h; rw [hn, Bool.false_and] at h; cases h)]
           exact wpAny_pure hQ))
def Itl (K : PySem.W.Frag) (a : Addr) : It :=
  ⟨fun i H => ∃ xs x, SqL K H a xs ∧ xs[i]? = some x, fun i H x H' => H' = H ∧ ∀ xs, SqL K H a xs → xs[i]? = some x, fun i H => ∃ xs, SqL K H a xs ∧ xs.length ≤ i⟩
def Itt (K : PySem.W.Frag) (a : Addr) : It :=
  ⟨fun i H => ∃ xs x, SqT K H a xs ∧ xs[i]? = some x, fun i H x H' => H' = H ∧ ∀ xs, SqT K H a xs → xs[i]? = some x, fun i H => ∃ xs, SqT K H a xs ∧ xs.length ≤ i⟩
def Itr (lo : Int) (n : Nat) : It := ⟨fun i _ => i < n, fun i H x H' => H' = H ∧ x = .int (lo + i), fun i _ => n ≤ i⟩
theorem turn_list {P : Program} {w : World} {K : PySem.W.Frag} {tg : Expr} (a it : Addr) : Turn P w K tg (Itl K a) [it] it (fun i h => h.IsListIter it a i) where
  mem := by simp
  obj := fun i h st b hb => by
    have e : b = it := by simpa using hb
    subst e
    obtain ⟨o, e, c, d⟩ := st
    exact ⟨o, e, fun v z => by rw [d] at z; cases z⟩
  keep := fun i h h' st k => st.at fun o e => k it (by simp) o e
  item := by
    intro X hP hw hK hc i pins s σ H E I hf st hg
    subst hP hw hK
    obtain ⟨xs, x, hq, hx⟩ := hg
    obtain ⟨its, rv, p, hz⟩ := I.list hq
    obtain ⟨u, hu, ru⟩ := rv.get hx
    obtain ⟨f0, f1, f2, f3, f4, f5⟩ := hf it (by simp)
    refine wpAny_pyNext_list_item st p.isList (x := u) (by simpa using hu) fun h' st' sb => ?_
    have I1 : Inv X pins σ H { s with heap := h' } := I.turned (t' := s.toks) (fun b o hb e => (sb.2 b hb).trans e) f0 f1 f3 f4 f5
    obtain ⟨o, e, c, d⟩ := id st'
    exact ⟨u, rfl, go_of (s := { s with heap := h' }) e c d (by decide) ⟨x, H, I1, ru, ⟨rfl, fun ys hy => by rw [I.list_inj hy hq]; exact hx⟩, st', fun b hb => (hf b hb).1⟩⟩
  done := by
    intro X hP hw hK hc i pins s σ H E I hf st hg
    subst hP hw hK
    obtain ⟨xs, hq, hx⟩ := hg
    obtain ⟨its, rv, p, hz⟩ := I.list hq
    obtain ⟨f0, f1, f2, f3, f4, f5⟩ := hf it (by simp)
    have hl := rv.length
    exact wpAny_pyNext_list_end (I.ok.hd hc) st p.isList (by simp; omega) fun h' eb => ⟨rfl, I.turned (t' := s.toks) (fun b o hb e => eb b o hb e) f0 f1 f3 f4 f5⟩
  self := fun _ _ _ _ _ st h => wpAny_pyIter_listiter st h
theorem turn_tuple {P : Program} {w : World} {K : PySem.W.Frag} {tg : Expr} (a it : Addr) : Turn P w K tg (Itt K a) [it] it (fun i h => h.IsTupleIter it a i) where
  mem := by simp
  obj := fun i h st b hb => by
    have e : b = it := by simpa using hb
    subst e
    obtain ⟨o, e, c, d⟩ := st
    exact ⟨o, e, fun v z => by rw [d] at z; cases z⟩
  keep := fun i h h' st k => st.at fun o e => k it (by simp) o e
  item := by
    intro X hP hw hK hc i pins s σ H E I hf st hg
    subst hP hw hK
    obtain ⟨xs, x, hq, hx⟩ := hg
    obtain ⟨its, rv, p, hz⟩ := I.tuple hq
    obtain ⟨u, hu, ru⟩ := rv.get hx
    obtain ⟨f0, f1, f2, f3, f4, f5⟩ := hf it (by simp)
    refine wpAny_pyNext_tuple_item st (show s.heap.IsTuple a its.toArray from p) (x := u) (by simpa using hu) fun h' st' sb => ?_
    have I1 : Inv X pins σ H { s with heap := h' } := I.turned (t' := s.toks) (fun b o hb e => (sb.2 b hb).trans e) f0 f1 f3 f4 f5
    obtain ⟨o, e, c, d⟩ := id st'
    exact ⟨u, rfl, go_of (s := { s with heap := h' }) e c d (by decide) ⟨x, H, I1, ru, ⟨rfl, fun ys hy => by rw [I.tuple_inj hy hq]; exact hx⟩, st', fun b hb => (hf b hb).1⟩⟩
  done := by
    intro X hP hw hK hc i pins s σ H E I hf st hg
    subst hP hw hK
    obtain ⟨xs, hq, hx⟩ := hg
    obtain ⟨its, rv, p, hz⟩ := I.tuple hq
    obtain ⟨f0, f1, f2, f3, f4, f5⟩ := hf it (by simp)
    have hl := rv.length
    exact wpAny_pyNext_tuple_end (I.ok.hd hc) st (show s.heap.IsTuple a its.toArray from p) (by simp; omega) fun h' eb => ⟨rfl, I.turned (t' := s.toks) (fun b o hb e => eb b o hb e) f0 f1 f3 f4 f5⟩
  self := fun _ _ _ _ _ st h => wpAny_pyIter_tupleiter st h
theorem turn_range {P : Program} {w : World} {K : PySem.W.Frag} {tg : Expr} (it : Addr) (lo : Int) (n : Nat) : Turn P w K tg (Itr lo n) [it] it (fun i h => IsRangeIter h it (lo + (i : Nat) * 1) ((n : Int) - (i : Nat)) 1) where
  mem := by simp
  obj := fun i h st b hb => by
    have e : b = it := by simpa using hb
    subst e
    exact ⟨_, st, fun v z => by
      have z' : Data.fields _ = Data.cell v := z
      cases z'⟩
  keep := fun i h h' st k => k it (by simp) _ st
  item := by
    intro X hP hw hK hc i pins s σ H E I hf st hg
    subst hP hw hK
    obtain ⟨f0, f1, f2, f3, f4, f5⟩ := hf it (by simp)
    have W := Walks.range (prog := X.prog) (w := X.w) (I.ok.hd hc) it lo 1 n
    refine W.item i s _ _ hg st fun v h' tk hv st' kk => ?_
    obtain ⟨t, rfl⟩ := hv
    have I1 : Inv X pins σ H { s with heap := h', toks := tk } := I.turned (fun b o hb e => kk b o (by simpa using hb) e) f0 f1 f3 f4 f5
    refine ⟨_, rfl, go_of (s := { s with heap := h', toks := tk }) (n := "range_iterator") st' rfl rfl (by decide) ⟨.int (lo + i), H, I1, ⟨t, ?_⟩, ⟨rfl, rfl⟩, st', fun b hb => (hf b hb).1⟩⟩
    rw [Int.mul_one]
  done := by
    intro X hP hw hK hc i pins s σ H E I hf st hg
    subst hP hw hK
    obtain ⟨f0, f1, f2, f3, f4, f5⟩ := hf it (by simp)
    exact wpAny_pyNext_range_end (I.ok.hd hc) st (by have : n ≤ i := hg; omega) fun h' eb => ⟨rfl, I.turned (t' := s.toks) (fun b o hb e => eb b o hb e) f0 f1 f3 f4 f5⟩
  self := fun _ _ _ _ _ st h => wpAny_pyIter_rangeiter st h
end L2
namespace L2
open PySem PySem.Spec PyProof.Rows
section
variable {X : Cx} {tg : Expr}
def iList (K : PySem.W.Frag) (tl : TE) : TI := fun σ H R => tl σ H fun x H1 => ∃ a, x = .ref a ∧ (∃ xs, SqL K H1 a xs) ∧ R (Itl K a) H1
def iTup (K : PySem.W.Frag) (tl : TE) : TI := fun σ H R => tl σ H fun x H1 => ∃ a, x = .ref a ∧ (∃ xs, SqT K H1 a xs) ∧ R (Itt K a) H1
theorem pi_list {l : Expr} {tl : TE} (hl : PE X l tl) : PI X tg l (iList X.K tl) := by
  intro pins s σ H R I h
  refine thn (hl pins s σ H _ I h) fun v s1 ⟨x, H1, I1, r1, q1⟩ => ?_
  obtain ⟨a, e, ⟨xs, hq⟩, q⟩ := q1
  subst e
  cases r1
  obtain ⟨its, rv, p, hz⟩ := I1.list hq
  refine wpAny_pyIter_list p.isList ?_
  refine ⟨s1.heap.objs.size, [s1.heap.objs.size], _, _, H1, rfl, I1.kept (t' := s1.toks) fun b o e => Heap.get?_push_of_some _ e, turn_list a _, ⟨_, Heap.get?_push_size _ rfl, rfl, rfl⟩, fun b hb => ?_, q⟩
  have e : b = s1.heap.objs.size := by simpa using hb
  subst e
  exact I1.fpOk (Nat.le_refl _) (I1.hok.fresh (Nat.le_refl _))
theorem pi_tup {l : Expr} {tl : TE} (hl : PE X l tl) : PI X tg l (iTup X.K tl) := by
  intro pins s σ H R I h
  refine thn (hl pins s σ H _ I h) fun v s1 ⟨x, H1, I1, r1, q1⟩ => ?_
  obtain ⟨a, e, ⟨xs, hq⟩, q⟩ := q1
  subst e
  cases r1
  obtain ⟨its, rv, p, hz⟩ := I1.tuple hq
  refine wpAny_pyIter_tuple (show s1.heap.IsTuple a its.toArray from p) ?_
  refine ⟨s1.heap.objs.size, [s1.heap.objs.size], _, _, H1, rfl, I1.kept (t' := s1.toks) fun b o e => Heap.get?_push_of_some _ e, turn_tuple a _, ⟨_, Heap.get?_push_size _ rfl, rfl, rfl⟩, fun b hb => ?_, q⟩
  have e : b = s1.heap.objs.size := by simpa using hb
  subst e
  exact I1.fpOk (Nat.le_refl _) (I1.hok.fresh (Nat.le_refl _))
theorem range_it {pins : List (Addr × Obj)} {σ : St} {H : Hp} {s : Shared} {R : It → Hp → Prop} {E : Value → Shared → Prop} {lo hi : Int} {t u v : Tok} {tk : Nat} (I : Inv X pins σ H s) (h1 : -(2 ^ 62) ≤ lo) (h2 : lo < 2 ^ 62) (h3 : -(2 ^ 62) ≤ hi) (h4 : hi < 2 ^ 62)
    (q : R (Itr lo (hi - lo).toNat) H) : wpAny (model X.prog X.w) X.A (pyIter (.ref s.heap.objs.size)) (PIE X pins σ tg R) E { s with heap := s.heap.push { cls := .type "range", data := .fields #[.int lo t, .int hi u, .int 1 v] }, toks := tk } := by
  refine wpAny_pyIter_range (IsRange.new ..) (small_one h1 h2 h3 h4) ?_
  have I1 : Inv X pins σ H { s with heap := s.heap.push { cls := .type "range", data := .fields #[.int lo t, .int hi u, .int 1 v] }, toks := tk } := I.kept fun b o e => Heap.get?_push_of_some _ e
  refine ⟨(s.heap.push { cls := .type "range", data := .fields #[.int lo t, .int hi u, .int 1 v] }).objs.size, [(s.heap.push { cls := .type "range", data := .fields #[.int lo t, .int hi u, .int 1 v] }).objs.size], _, _, H, rfl,
    I1.kept (t' := tk) fun b o e => Heap.get?_push_of_some _ e, turn_range _ lo (hi - lo).toNat, ?_, fun b hb => ?_, q⟩
  · have e1 : lo + ((0 : Nat) : Int) * 1 = lo := by simp
    have e2 : (((hi - lo).toNat : Nat) : Int) - ((0 : Nat) : Int) = Builtin.Range.rangeSize lo hi 1 := by rw [rangeSize_one]; split <;> omega
    show IsRangeIter _ _ (lo + ((0 : Nat) : Int) * 1) ((((hi - lo).toNat : Nat) : Int) - ((0 : Nat) : Int)) 1
    rw [e1, e2]
    exact Heap.get?_push_size _ rfl
  · have e : b = (s.heap.push { cls := .type "range", data := .fields #[.int lo t, .int hi u, .int 1 v] }).objs.size := by simpa using hb
    subst e
    exact I1.fpOk (Nat.le_refl _) (I1.hok.fresh (Nat.le_refl _))
def iRng1 (ta : TA) : TI := fun σ H R => ta σ H fun vs H1 => ∃ j : Int, vs = [.int j] ∧ -(2 ^ 62) ≤ j ∧ j < 2 ^ 62 ∧ R (Itr 0 j.toNat) H1
theorem pi_range1 {a : Expr} {ta : TA} {p pos : Pos} (hg : Gl X "range") (hm : X.mg "range" = none) (ha : PA X [a] ta) (hs : starEach [a] X.env = [(false, eval a X.env)] := by rfl) : PI X tg (.Call (.Name "range" p) [a] [] pos) (iRng1 ta) := by
  intro pins s σ H R I h
  refine Call_ (ld_blt I hg hm boot_range (PyProof.Rows.callWith_type1 (thn (ha pos pins s σ H _ I h) fun us s1 ⟨vs, H1, I1, r1, q1⟩ => ?_) hs rfl))
  obtain ⟨j, e, q1, q2, q⟩ := q1
  subst e
  cases r1 with
  | cons r rr =>
    cases rr
    obtain ⟨t, rfl⟩ := r
    exact call_range_1 (range_it I1 (by omega) (by omega) q1 q2 (by simpa using q))
def tFor (wi : TI) (g : TG) (tb : TS) : TS := fun D σ H => wi σ H fun J H1 => ∃ W : Nat → Nat → St → Hp → Prop, (∃ m, W 0 m σ H1) ∧ ∀ i m σ H, W i m σ H →
  (J.stop i H ∧ D.nx σ H) ∨ (J.go i H ∧ ∃ N : St → Hp → Prop, (∀ σ' H', N σ' H' → ∃ m', m' < m ∧ W (i + 1) m' σ' H') ∧ ∀ x H', J.yld i H x H' → g x σ H' fun σ2 H2 => tb { D with nx := N, ct := N, bk := D.nx } σ2 H2)
def pinsAt (fp : List Addr) (h : Heap) : List (Addr × Obj) := fp.filterMap fun b => (h.get? b).map fun o => (b, o)
theorem mem_pinsAt {fp : List Addr} {h : Heap} {b : Addr} {o : Obj} (hb : b ∈ fp) (e : h.get? b = some o) : (b, o) ∈ pinsAt fp h := List.mem_filterMap.mpr ⟨b, hb, by rw [e]; rfl⟩
theorem of_pinsAt {fp : List Addr} {h : Heap} {p : Addr × Obj} (hp : p ∈ pinsAt fp h) : p.1 ∈ fp ∧ h.get? p.1 = some p.2 := by
  obtain ⟨b, hb, e⟩ := List.mem_filterMap.mp hp
  cases q : h.get? b with
  | none => rw [q] at e; cases e
  | some o =>
    rw [q] at e
    have e' : (b, o) = p := Option.some.inj e
    subst e'
    exact ⟨hb, q⟩
theorem Inv.pinned {pins : List (Addr × Obj)} {σ : St} {H : Hp} {s : Shared} {fp : List Addr} (I : Inv X pins σ H s) (hf : ∀ b ∈ fp, FpOk X pins H b) (ho : ∀ b ∈ fp, ∃ o, s.heap.get? b = some o ∧ ∀ v, o.data ≠ .cell v) : Inv X (pins ++ pinsAt fp s.heap) σ H s :=
  I.pins_of fun p hp => (List.mem_append.mp hp).elim (fun z => I.pin p (List.mem_append_right _ z)) fun z => by
    obtain ⟨hb, e⟩ := of_pinsAt z
    obtain ⟨f0, f1, f2, _⟩ := hf p.1 hb
    obtain ⟨o, e', d⟩ := ho p.1 hb
    rw [e] at e'; cases e'
    exact ⟨e, f0, f1, f2, d⟩
theorem Inv.unpinned {pins pl : List (Addr × Obj)} {σ : St} {H : Hp} {s : Shared} (I : Inv X (pins ++ pl) σ H s) : Inv X pins σ H s := I.pins_of fun p hp => I.pin p (List.mem_append_right _ (List.mem_append_left _ hp))
theorem ps_for {iter : Expr} {body : List Stmt} {wi : TI} {g : TG} {tb : TS} {pos : Pos} (hp : PassesOwn (model X.prog X.w) X.A X.env X.xe) (hc : X.calm = true) (hi : PI X tg iter wi) (hg : PG X tg g) (hb : PSs X body tb)
    (hs : ∀ x, foldedSetIterable iter X.env x = pure x := by intro _; rfl) : PS X (.For tg iter body [] pos) (tFor wi g tb) := by
  intro pins s σ H D I h
  refine wpAny_For (thn (hi pins s σ H _ I h) fun v s1 h1 => thn h1 fun itv s2 h2 => ?_) hs
  obtain ⟨it, fp, tn, J, H2, e, I2, T, st2, f2, W, ⟨m0, w0⟩, turn⟩ := h2
  subst e
  have stat : ∀ {H' : Hp}, (∀ b ∈ fp, H' b = none) → ∀ b ∈ fp, FpOk X pins H' b := fun hn b hb => ⟨hn b hb, (f2 b hb).2⟩
  refine codeAny_forLoop_any (fun n s' => ∃ i σ' H', Inv X pins σ' H' s' ∧ tn i s'.heap ∧ (∀ b ∈ fp, H' b = none) ∧ W i n σ' H') ?_ m0 ⟨0, σ, H2, I2, st2, fun b hb => (f2 b hb).1, w0⟩
  rintro n s3 ⟨i, σ3, H3, I3, st3, fr3, w3⟩
  rcases turn i n σ3 H3 w3 with ⟨stop, qn⟩ | ⟨go, N, hN, step⟩
  · refine wpAny_passesOwn hp (thn (T.done X rfl rfl rfl hc i pins s3 σ3 H3 X.xe I3 (stat fr3) st3 stop) fun r s4 ⟨hr, I4⟩ => ?_)
    subst hr
    exact wpAny_execs_nil ⟨σ3, H3, I4, qn⟩
  · refine wpAny_passesOwn hp (thn (T.item X rfl rfl rfl hc i pins s3 σ3 H3 X.xe I3 (stat fr3) st3 go) fun r s4 ⟨u, hr, h4⟩ => ?_)
    subst hr
    refine wpAny_passesOwn hp (thn h4 fun _ s5 ⟨x, H5, I5, r5, y5, st5, fr5⟩ => ?_)
    have I5' := I5.pinned (stat fr5) (T.obj _ _ st5)
    refine wpAny_passesOwn hp (thn (hg _ s5 σ3 H5 x u _ I5' r5 (step x H5 y5)) fun _ s6 ⟨σ6, H6, I6, q6⟩ => ?_)
    refine wpAny_passesOwn hp (thn (hb _ s6 σ6 H6 _ I6 q6) fun f s7 q7 => ?_)
    have again : ∀ {σ7 : St} {H7 : Hp}, Inv X (pins ++ pinsAt fp s5.heap) σ7 H7 s7 → N σ7 H7 → ∃ m, m < n ∧ ∃ i σ' H', Inv X pins σ' H' s7 ∧ tn i s7.heap ∧ (∀ b ∈ fp, H' b = none) ∧ W i m σ' H' := fun {σ7 H7} I7 n7 => by
      obtain ⟨m', hm, w7⟩ := hN σ7 H7 n7
      refine ⟨m', hm, i + 1, σ7, H7, I7.unpinned, T.keep _ _ _ st5 fun b hb o e => (I7.pin (b, o) (List.mem_append_right _ (List.mem_append_right _ (mem_pinsAt hb e)))).1, fun b hb => ?_, w7⟩
      obtain ⟨o, e, d⟩ := T.obj _ _ st5 b hb
      exact (I7.pin (b, o) (List.mem_append_right _ (List.mem_append_right _ (mem_pinsAt hb e)))).2.1
    cases f with
    | next => obtain ⟨σ7, H7, I7, n7⟩ := q7; exact again I7 n7
    | cont => obtain ⟨σ7, H7, I7, n7⟩ := q7; exact again I7 n7
    | brk => obtain ⟨σ7, H7, I7, q7⟩ := q7; exact ⟨σ7, H7, I7.unpinned, q7⟩
    | ret v => obtain ⟨x7, σ7, H7, I7, r7, q7⟩ := q7; exact ⟨x7, σ7, H7, I7.unpinned, r7, q7⟩
end
theorem for_tup {K : PySem.W.Frag} {a : Addr} {xs : List V} {g : TG} {tb : TS} {D : Ends} {σ : St} {H : Hp} (Pv : Nat → St → Hp → Prop) (h0 : Pv 0 σ H) (hl : ∀ i σ H, i ≤ xs.length → Pv i σ H → SqT K H a xs)
    (hs : ∀ i x σ H, xs[i]? = some x → Pv i σ H → g x σ H fun σ2 H2 => tb { D with nx := Pv (i + 1), ct := Pv (i + 1), bk := D.nx } σ2 H2) (hd : ∀ σ H, Pv xs.length σ H → D.nx σ H) :
    ∃ W : Nat → Nat → St → Hp → Prop, (∃ m, W 0 m σ H) ∧ ∀ i m σ H, W i m σ H →
      ((Itt K a).stop i H ∧ D.nx σ H) ∨ ((Itt K a).go i H ∧ ∃ N : St → Hp → Prop, (∀ σ' H', N σ' H' → ∃ m', m' < m ∧ W (i + 1) m' σ' H') ∧ ∀ x H', (Itt K a).yld i H x H' → g x σ H' fun σ2 H2 => tb { D with nx := N, ct := N, bk := D.nx } σ2 H2) := by
  refine ⟨fun i m σ H => m = xs.length - i ∧ i ≤ xs.length ∧ Pv i σ H, ⟨xs.length, by simp, Nat.zero_le _, h0⟩, ?_⟩
  rintro i m σ H ⟨rfl, hi, p⟩
  have q := hl i σ H hi p
  by_cases hlt : i < xs.length
  · refine .inr ⟨⟨xs, xs[i], q, by simp [hlt]⟩, Pv (i + 1), fun σ' H' p' => ⟨xs.length - (i + 1), by omega, rfl, hlt, p'⟩, fun x H' y => ?_⟩
    obtain ⟨e, y⟩ := y
    subst e
    exact hs i x σ _ (y xs q) p
  · have e : i = xs.length := by omega
    subst e
    exact .inl ⟨⟨xs, q, Nat.le_refl _⟩, hd σ H p⟩
theorem for_range {lo : Int} {n : Nat} {g : TG} {tb : TS} {D : Ends} {σ : St} {H : Hp} (Pv : Nat → St → Hp → Prop) (h0 : Pv 0 σ H)
    (hs : ∀ i σ H, i < n → Pv i σ H → g (.int (lo + i)) σ H fun σ2 H2 => tb { D with nx := Pv (i + 1), ct := Pv (i + 1), bk := D.nx } σ2 H2) (hd : ∀ σ H, Pv n σ H → D.nx σ H) :
    ∃ W : Nat → Nat → St → Hp → Prop, (∃ m, W 0 m σ H) ∧ ∀ i m σ H, W i m σ H →
      ((Itr lo n).stop i H ∧ D.nx σ H) ∨ ((Itr lo n).go i H ∧ ∃ N : St → Hp → Prop, (∀ σ' H', N σ' H' → ∃ m', m' < m ∧ W (i + 1) m' σ' H') ∧ ∀ x H', (Itr lo n).yld i H x H' → g x σ H' fun σ2 H2 => tb { D with nx := N, ct := N, bk := D.nx } σ2 H2) := by
  refine ⟨fun i m σ H => m = n - i ∧ i ≤ n ∧ Pv i σ H, ⟨n, by simp, Nat.zero_le _, h0⟩, ?_⟩
  rintro i m σ H ⟨rfl, hi, p⟩
  by_cases hlt : i < n
  · refine .inr ⟨hlt, Pv (i + 1), fun σ' H' p' => ⟨n - (i + 1), by omega, rfl, hlt, p'⟩, fun x H' y => ?_⟩
    obtain ⟨e, y⟩ := y
    subst e y
    exact hs i σ _ hlt p
  · have e : i = n := by omega
    subst e
    exact .inl ⟨Nat.le_refl _, hd σ H p⟩
end L2
namespace L2
open PySem PySem.Spec PyProof.Rows
abbrev R2 := V → V → Hp → VK → Prop
def OpR (X : Cx) (f : Value → Value → Sem Value) (r : R2) : Prop :=
  ∀ (pins : List (Addr × Obj)) (s : Shared) (σ : St) (H : Hp) (x y : V) (v u : Value) (Q : VK), Inv X pins σ H s → RelV x v → RelV y u → r x y H Q →
    wpAny (model X.prog X.w) X.A (f v u) (EP X pins σ Q) X.xe s
def UnR (X : Cx) (f : Value → Sem Value) (r : V → Hp → VK → Prop) : Prop :=
  ∀ (pins : List (Addr × Obj)) (s : Shared) (σ : St) (H : Hp) (x : V) (v : Value) (Q : VK), Inv X pins σ H s → RelV x v → r x H Q →
    wpAny (model X.prog X.w) X.A (f v) (EP X pins σ Q) X.xe s
def CallR (X : Cx) (f : Value) (r : List V → Hp → VK → Prop) : Prop :=
  ∀ (pins : List (Addr × Obj)) (s : Shared) (σ : St) (H : Hp) (xs : List V) (us : List Value) (Q : VK), Inv X pins σ H s → Vals xs us → r xs H Q →
    wpAny (model X.prog X.w) X.A (call f us) (EP X pins σ Q) X.xe s
def tOp (r : R2) (ta tb : TE) : TE := fun σ H Q => ta σ H fun x H1 => tb σ H1 fun y H2 => r x y H2 Q
def tUn (r : V → Hp → VK → Prop) (ta : TE) : TE := fun σ H Q => ta σ H fun x H1 => r x H1 Q
def rI (C : Int → Int → Prop) (g : Int → Int → V) : R2 := fun x y H Q => ∃ i j, x = .int i ∧ y = .int j ∧ C i j ∧ Q (g i j) H
def rI0 (g : Int → Int → V) : R2 := fun x y H Q => ∃ i j, x = .int i ∧ y = .int j ∧ Q (g i j) H
def rU (g : Int → V) : V → Hp → VK → Prop := fun x H Q => ∃ i, x = .int i ∧ Q (g i) H
section
variable {X : Cx} {a b c : Expr} {ta tb tc : TE} {pos : Pos}
theorem binT (ha : PE X a ta) (hb : PE X b tb) {pins : List (Addr × Obj)} {s : Shared} {σ : St} {H : Hp} {R : V → V → Hp → Prop} (I : Inv X pins σ H s)
    (h : ta σ H fun x H1 => tb σ H1 fun y H2 => R x y H2) {Q : Value → Shared → Prop} {f : Value → Value → Sem Value}
    (hf : ∀ v u s2 x y H2, Inv X pins σ H2 s2 → RelV x v → RelV y u → R x y H2 → wpAny (model X.prog X.w) X.A (f v u) Q X.xe s2) :
    wpAny (model X.prog X.w) X.A (eval a X.env) (fun v s₁ => wpAny (model X.prog X.w) X.A (eval b X.env) (fun u s₂ => wpAny (model X.prog X.w) X.A (f v u) Q X.xe s₂) X.xe s₁) X.xe s := by
  refine thn (ha pins s σ H _ I h) fun v s1 ⟨x, H1, I1, r1, q1⟩ => ?_
  refine thn (hb pins s1 σ H1 _ I1 q1) fun u s2 ⟨y, H2, I2, r2, q2⟩ => ?_
  exact hf v u s2 x y H2 I2 r1 r2 q2
theorem pe_op {op : Operator} {r : R2} (ho : OpR X (binaryOp op) r) (ha : PE X a ta) (hb : PE X b tb) : PE X (.BinOp a op b pos) (tOp r ta tb) := by
  intro pins s σ H Q I h
  exact wpAny_BinOp (binT ha hb I h fun v u s2 x y H2 I2 rx ry q => ho pins s2 σ H2 x y v u Q I2 rx ry q)
theorem pe_un {op : UnaryOp} {r : V → Hp → VK → Prop} (ho : UnR X (unaryOp op) r) (ha : PE X a ta) : PE X (.UnaryOp op a pos) (tUn r ta) := by
  intro pins s σ H Q I h
  exact UnaryOp_ (thn (ha pins s σ H _ I h) fun v s1 ⟨x, H1, I1, r1, q1⟩ => ho pins s1 σ H1 x v Q I1 r1 q1)
theorem opI {f : Value → Value → Sem Value} {C : Int → Int → Prop} {g : Int → Int → Int}
    (rule : ∀ (i j : Int) (t u : Tok) (s : Shared) (Q : Value → Shared → Prop) (E : Value → Shared → Prop), C i j → Q (.int (g i j) s.toks) { s with toks := s.toks + 1 } → wpAny (model X.prog X.w) X.A (f (.int i t) (.int j u)) Q E s) :
    OpR X f (rI C fun i j => .int (g i j)) := by
  intro pins s σ H x y v u Q I rx ry h
  obtain ⟨i, j, rfl, rfl, hc, q⟩ := h
  obtain ⟨t, rfl⟩ := rx
  obtain ⟨t', rfl⟩ := ry
  exact rule i j t t' s _ _ hc ⟨.int (g i j), H, I.tok _, ⟨_, rfl⟩, q⟩
theorem opI0 {f : Value → Value → Sem Value} {g : Int → Int → Int}
    (rule : ∀ (i j : Int) (t u : Tok) (s : Shared) (Q : Value → Shared → Prop) (E : Value → Shared → Prop), Q (.int (g i j) s.toks) { s with toks := s.toks + 1 } → wpAny (model X.prog X.w) X.A (f (.int i t) (.int j u)) Q E s) :
    OpR X f (rI0 fun i j => .int (g i j)) := by
  intro pins s σ H x y v u Q I rx ry h
  obtain ⟨i, j, rfl, rfl, q⟩ := h
  obtain ⟨t, rfl⟩ := rx
  obtain ⟨t', rfl⟩ := ry
  exact rule i j t t' s _ _ ⟨.int (g i j), H, I.tok _, ⟨_, rfl⟩, q⟩
theorem opB0 {f : Value → Value → Sem Value} {g : Int → Int → Bool}
    (rule : ∀ (i j : Int) (t u : Tok) (s : Shared) (Q : Value → Shared → Prop) (E : Value → Shared → Prop), Q (.bool (g i j)) s → wpAny (model X.prog X.w) X.A (f (.int i t) (.int j u)) Q E s) :
    OpR X f (rI0 fun i j => .bl (g i j)) := by
  intro pins s σ H x y v u Q I rx ry h
  obtain ⟨i, j, rfl, rfl, q⟩ := h
  obtain ⟨t, rfl⟩ := rx
  obtain ⟨t', rfl⟩ := ry
  exact rule i j t t' s _ _ ⟨.bl (g i j), H, I, rfl, q⟩
def CDiv (i j : Int) : Prop := 0 < j ∧ j < 1073741824
def CMul (i j : Int) : Prop := (-(2 ^ 64) < i ∧ i < 2 ^ 64) ∨ (-(2 ^ 64) < j ∧ j < 2 ^ 64)
theorem CMul.ok {i j : Int} (h : CMul i j) : IntMulOk i j := by
  rcases h with ⟨h1, h2⟩ | ⟨h1, h2⟩
  · exact .of_left (intBits_le_64 h1 h2)
  · exact .of_right (intBits_le_64 h1 h2)
theorem op_add : OpR X (binaryOp .Add) (rI0 fun i j => .int (i + j)) := opI0 fun _ _ _ _ _ _ _ q => add_int q
theorem op_sub : OpR X (binaryOp .Sub) (rI0 fun i j => .int (i - j)) := opI0 fun _ _ _ _ _ _ _ q => sub_int q
theorem op_mul : OpR X (binaryOp .Mult) (rI CMul fun i j => .int (i * j)) := opI fun _ _ _ _ _ _ _ hc q => mul_int q hc.ok
theorem op_fdiv : OpR X (binaryOp .FloorDiv) (rI CDiv fun i j => .int (i / j)) := opI fun i j _ _ _ _ _ hc q => by
  have h1 : (0 : Int) < j := hc.1
  have h2 : j < 1073741824 := hc.2
  exact floordiv_int (by omega) (by rw [Int.fdiv_eq_ediv_of_nonneg i (by omega)]; exact q) (.inl (PyProof.noPylong_small (by omega)))
theorem unI {f : Value → Sem Value} {g : Int → Int}
    (rule : ∀ (i : Int) (t : Tok) (s : Shared) (Q : Value → Shared → Prop) (E : Value → Shared → Prop), Q (.int (g i) s.toks) { s with toks := s.toks + 1 } → wpAny (model X.prog X.w) X.A (f (.int i t)) Q E s) :
    UnR X f (rU fun i => .int (g i)) := by
  intro pins s σ H x v Q I rx h
  obtain ⟨i, rfl, q⟩ := h
  obtain ⟨t, rfl⟩ := rx
  exact rule i t s _ _ ⟨.int (g i), H, I.tok _, ⟨_, rfl⟩, q⟩
theorem un_neg : UnR X (unaryOp .USub) (rU fun i => .int (-i)) := unI fun _ _ _ _ _ q => neg_int q
end
def scal : V → V → Bool
  | .non, .non => true | .non, .int _ => true | .int _, .non => true | .non, .bl _ => true | .bl _, .non => true | .non, .str _ => true | .str _, .non => true
  | .int _, .int _ => true | .bl _, .bl _ => true | .str _, .str _ => true | .byt _, .byt _ => true
  | .int _, .str _ => true | .str _, .int _ => true | .bl _, .str _ => true | .str _, .bl _ => true
  | _, _ => false
def rEq : R2 := fun x y H Q => scal x y = true ∧ Q (.bl (decide (x = y))) H
def rNe : R2 := fun x y H Q => scal x y = true ∧ Q (.bl (!decide (x = y))) H
theorem dec_int {i j : Int} : decide (V.int i = V.int j) = (i == j) := by
  rw [Bool.eq_iff_iff]
  simp
theorem dec_bl {i j : Bool} : decide (V.bl i = V.bl j) = (i == j) := by
  rw [Bool.eq_iff_iff]
  simp
theorem dec_str {i j : Str} : decide (V.str i = V.str j) = (i == j) := by
  rw [Bool.eq_iff_iff]
  simp
theorem dec_byt {i j : Array UInt8} : decide (V.byt i = V.byt j) = (i.toList == j.toList) := by
  rw [Bool.eq_iff_iff]
  cases i
  cases j
  simp
section
variable {X : Cx} {a b c : Expr} {ta tb tc : TE} {pos : Pos}
theorem fin_bl {pins : List (Addr × Obj)} {σ : St} {H : Hp} {s : Shared} {Q : VK} {k k' : Bool} (I : Inv X pins σ H s) (q : Q (.bl k) H) (e : k = k') : EP X pins σ Q (.bool k') s := by
  subst e
  exact ⟨.bl k, H, I, rfl, q⟩
theorem op_eq : OpR X (compareOp .Eq) rEq := by
  intro pins s σ H x y v u Q I rx ry h
  obtain ⟨hs, q⟩ := h
  cases x with
  | non =>
    cases rx
    cases y with
    | non => cases ry; exact PySem.EqNone.eq_none_none (fin_bl I q (by simp))
    | bl j => cases ry; exact PySem.EqNone.eq_none_bool (fin_bl I q (by simp))
    | int j => obtain ⟨t', rfl⟩ := ry; exact PySem.EqNone.eq_none_int (fin_bl I q (by simp))
    | str j => obtain ⟨t', rfl⟩ := ry; exact PySem.EqNone.eq_none_str (fin_bl I q (by simp))
    | _ => exact absurd (show false = true from hs) Bool.false_ne_true
  | bl i =>
    cases rx
    cases y with
    | non => cases ry; exact PySem.EqNone.eq_bool_none (fin_bl I q (by simp))
    | bl j => cases ry; exact eq_bool (fin_bl I q dec_bl)
    | str j => obtain ⟨t', rfl⟩ := ry; exact PySem.EqMixed.eq_bool_str (fin_bl I q (by simp))
    | _ => exact absurd (show false = true from hs) Bool.false_ne_true
  | int i =>
    obtain ⟨t, rfl⟩ := rx
    cases y with
    | non => cases ry; exact PySem.EqNone.eq_int_none (fin_bl I q (by simp))
    | int j => obtain ⟨t', rfl⟩ := ry; exact eq_int (fin_bl I q dec_int)
    | str j => obtain ⟨t', rfl⟩ := ry; exact PySem.EqMixed.eq_int_str (fin_bl I q (by simp))
    | _ => exact absurd (show false = true from hs) Bool.false_ne_true
  | str i =>
    obtain ⟨t, rfl⟩ := rx
    cases y with
    | non => cases ry; exact PySem.EqNone.eq_str_none (fin_bl I q (by simp))
    | bl j => cases ry; exact PySem.EqMixed.eq_str_bool (fin_bl I q (by simp))
    | int j => obtain ⟨t', rfl⟩ := ry; exact PySem.EqMixed.eq_str_int (fin_bl I q (by simp))
    | str j => obtain ⟨t', rfl⟩ := ry; exact eq_str (fin_bl I q dec_str)
    | _ => exact absurd (show false = true from hs) Bool.false_ne_true
  | byt i =>
    obtain ⟨t, rfl⟩ := rx
    cases y with
    | byt j => obtain ⟨t', rfl⟩ := ry; exact PySem.W.eq_bytes (fin_bl I q dec_byt)
    | _ => exact absurd (show false = true from hs) Bool.false_ne_true
  | _ => cases y <;> exact absurd (show false = true from hs) Bool.false_ne_true
theorem op_ne : OpR X (compareOp .NotEq) rNe := by
  intro pins s σ H x y v u Q I rx ry h
  obtain ⟨hs, q⟩ := h
  cases x with
  | non =>
    cases rx
    cases y with
    | non => cases ry; exact PySem.EqNone.ne_none_none (fin_bl I q (by simp))
    | bl j => cases ry; exact PySem.EqNone.ne_none_bool (fin_bl I q (by simp))
    | int j => obtain ⟨t', rfl⟩ := ry; exact PySem.EqNone.ne_none_int (fin_bl I q (by simp))
    | str j => obtain ⟨t', rfl⟩ := ry; exact PySem.EqNone.ne_none_str (fin_bl I q (by simp))
    | _ => exact absurd (show false = true from hs) Bool.false_ne_true
  | bl i =>
    cases rx
    cases y with
    | non => cases ry; exact PySem.EqNone.ne_bool_none (fin_bl I q (by simp))
    | bl j => cases ry; exact ne_bool (fin_bl I q (congrArg not dec_bl))
    | str j => obtain ⟨t', rfl⟩ := ry; exact PySem.EqMixed.ne_bool_str (fin_bl I q (by simp))
    | _ => exact absurd (show false = true from hs) Bool.false_ne_true
  | int i =>
    obtain ⟨t, rfl⟩ := rx
    cases y with
    | non => cases ry; exact PySem.EqNone.ne_int_none (fin_bl I q (by simp))
    | int j => obtain ⟨t', rfl⟩ := ry; exact ne_int (fin_bl I q (congrArg not dec_int))
    | str j => obtain ⟨t', rfl⟩ := ry; exact PySem.EqMixed.ne_int_str (fin_bl I q (by simp))
    | _ => exact absurd (show false = true from hs) Bool.false_ne_true
  | str i =>
    obtain ⟨t, rfl⟩ := rx
    cases y with
    | non => cases ry; exact PySem.EqNone.ne_str_none (fin_bl I q (by simp))
    | bl j => cases ry; exact PySem.EqMixed.ne_str_bool (fin_bl I q (by simp))
    | int j => obtain ⟨t', rfl⟩ := ry; exact PySem.EqMixed.ne_str_int (fin_bl I q (by simp))
    | str j => obtain ⟨t', rfl⟩ := ry; exact ne_str (fin_bl I q (congrArg not dec_str))
    | _ => exact absurd (show false = true from hs) Bool.false_ne_true
  | byt i =>
    obtain ⟨t, rfl⟩ := rx
    cases y with
    | byt j => obtain ⟨t', rfl⟩ := ry; exact PySem.W.ne_bytes (fin_bl I q (congrArg not dec_byt))
    | _ => exact absurd (show false = true from hs) Bool.false_ne_true
  | _ => cases y <;> exact absurd (show false = true from hs) Bool.false_ne_true
theorem op_lt : OpR X (compareOp .Lt) (rI0 fun i j => .bl (decide (i < j))) := opB0 fun _ _ _ _ _ _ _ q => lt_int q
theorem op_le : OpR X (compareOp .LtE) (rI0 fun i j => .bl (decide (i ≤ j))) := opB0 fun _ _ _ _ _ _ _ q => le_int q
theorem op_gt : OpR X (compareOp .Gt) (rI0 fun i j => .bl (decide (j < i))) := opB0 fun _ _ _ _ _ _ _ q => gt_int q
theorem op_ge : OpR X (compareOp .GtE) (rI0 fun i j => .bl (decide (j ≤ i))) := opB0 fun _ _ _ _ _ _ _ q => ge_int q
theorem nomark (b : Expr) {op : CmpOp} (h : op ≠ .In := by decide) (h2 : op ≠ .NotIn := by decide) : behindInMarks op b = false := by
  have e1 : (op == CmpOp.In) = false := by cases op <;> first | rfl | exact absurd rfl h
  have e2 : (op == CmpOp.NotIn) = false := by cases op <;> first | rfl | exact absurd rfl h2
  cases b <;> simp [behindInMarks, e1, e2]
theorem pe_cmpR {op : CmpOp} {r : R2} (ho : OpR X (compareOp op) r) (ha : PE X a ta) (hb : PE X b tb) (hm : behindInMarks op b = false) : PE X (.Compare a [op] [b] pos) (tOp r ta tb) := by
  intro pins s σ H Q I h
  exact wpAny_Compare1 (binT ha hb I h fun v u s2 x y H2 I2 rx ry q => ho pins s2 σ H2 x y v u Q I2 rx ry q) hm
def tTest (t : TE) : TT := fun σ H Q => t σ H fun x H' => ∃ k, x = .bl k ∧ Q k H'
theorem pt_cmpR {op : CmpOp} {r : R2} (ho : OpR X (compareOp op) r) (ha : PE X a ta) (hb : PE X b tb) (hm : behindInMarks op b = false) : PT X (.Compare a [op] [b] pos) (tTest (tOp r ta tb)) := by
  intro pins s σ H Q I h
  refine wpAny_isTrue_Compare1 (thn (ha pins s σ H _ I h) fun v s1 ⟨x, H1, I1, r1, q1⟩ => thn (hb pins s1 σ H1 _ I1 q1) fun u s2 ⟨y, H2, I2, r2, q2⟩ =>
    thn (ho pins s2 σ H2 x y v u _ I2 r1 r2 q2) fun c s3 ⟨z, H3, I3, r3, k, e, q3⟩ => ?_) hm
  subst e
  cases r3
  exact wpAny_truthy_bool ⟨H3, I3, q3⟩
def tChain (r r' : R2) (ta tb tc : TE) : TE := fun σ H Q => ta σ H fun x H1 => tb σ H1 fun y H2 => r x y H2 fun z H3 => ∃ k, z = .bl k ∧
  (if k = true then tc σ H3 fun w' H4 => r' y w' H4 Q else Q (.bl false) H3)
theorem pe_chain {op op' : CmpOp} {r r' : R2} (ho : OpR X (compareOp op) r) (ho' : OpR X (compareOp op') r') (ha : PE X a ta) (hb : PE X b tb) (hc : PE X c tc)
    (hm : lastMarks [op, op'] [b, c] = false := by with_unfolding_all rfl) : PE X (.Compare a [op, op'] [b, c] pos) (tChain r r' ta tb tc) := by
  intro pins s σ H Q I h
  refine Compare_chain (thn (ha pins s σ H _ I h) fun v s1 ⟨x, H1, I1, r1, q1⟩ => chain_link (thn (hb pins s1 σ H1 _ I1 q1) fun u s2 ⟨y, H2, I2, r2, q2⟩ =>
    thn (ho pins s2 σ H2 x y v u _ I2 r1 r2 q2) fun d s3 ⟨z, H3, I3, r3, k, e, q3⟩ => ?_)) hm
  subst e
  cases r3
  refine wpAny_truthy_bool ?_
  cases k with
  | false => exact ite_ff ⟨.bl false, H3, I3, rfl, q3⟩
  | true => exact ite_tt (chain_last (thn (hc pins s3 σ H3 _ I3 q3) fun w' s4 ⟨z', H4, I4, r4, q4⟩ => ho' pins s4 σ H4 y z' u w' Q I4 r2 r4 q4))
theorem pt_chain {op op' : CmpOp} {r r' : R2} (ho : OpR X (compareOp op) r) (ho' : OpR X (compareOp op') r') (ha : PE X a ta) (hb : PE X b tb) (hc : PE X c tc)
    (hm : lastMarks [op, op'] [b, c] = false := by with_unfolding_all rfl) : PT X (.Compare a [op, op'] [b, c] pos) (tTest (tChain r r' ta tb tc)) := by
  intro pins s σ H Q I h
  refine isTrue_chain (thn (ha pins s σ H _ I h) fun v s1 ⟨x, H1, I1, r1, q1⟩ => test_link (thn (hb pins s1 σ H1 _ I1 q1) fun u s2 ⟨y, H2, I2, r2, q2⟩ =>
    thn (ho pins s2 σ H2 x y v u _ I2 r1 r2 q2) fun d s3 ⟨z, H3, I3, r3, k, e, q3⟩ => ?_)) hm
  subst e
  cases r3
  refine wpAny_truthy_bool ?_
  cases k with
  | false =>
    obtain ⟨k', e', q'⟩ := q3
    cases e'
    exact ite_ff ⟨H3, I3, q'⟩
  | true =>
    refine ite_tt (test_last (thn (hc pins s3 σ H3 _ I3 q3) fun w' s4 ⟨z', H4, I4, r4, q4⟩ => thn (ho' pins s4 σ H4 y z' u w' _ I4 r2 r4 q4) fun d' s5 ⟨z2, H5, I5, r5, k2, e2, q5⟩ => ?_))
    subst e2
    cases r5
    exact wpAny_truthy_bool ⟨H5, I5, q5⟩
theorem line63 : (sizeLine : Nat) < 2 ^ 63 := by rw [sizeLine_eq]; decide
theorem vals1 {x : V} {us : List Value} (r : Vals [x] us) : ∃ u, us = [u] ∧ RelV x u := by
  cases r with
  | cons r1 r2 => cases r2; exact ⟨_, rfl, r1⟩
theorem vals2 {x y : V} {us : List Value} (r : Vals [x, y] us) : ∃ u w', us = [u, w'] ∧ RelV x u ∧ RelV y w' := by
  cases r with
  | cons r1 r2 =>
    cases r2 with
    | cons r3 r4 => cases r4; exact ⟨_, _, rfl, r1, r3⟩
theorem call_abs : CallR X (.builtin "abs") (fun xs H Q => ∃ i, xs = [.int i] ∧ Q (.int (if i < 0 then -i else i)) H) := by
  intro pins s σ H xs us Q I r h
  obtain ⟨i, rfl, q⟩ := h
  obtain ⟨u, rfl, t, rfl⟩ := vals1 r
  exact call_abs_int fun u tk => ⟨.int (if i < 0 then -i else i), H, I.tok _, ⟨_, rfl⟩, q⟩
theorem call_max2 (hc : X.calm = true) : CallR X (.builtin "max") (fun xs H Q => ∃ i j, xs = [.int i, .int j] ∧ Q (.int (if j > i then j else i)) H) := by
  intro pins s σ H xs us Q I r h
  obtain ⟨i, j, rfl, q⟩ := h
  obtain ⟨u, w', rfl, ⟨t, rfl⟩, ⟨t', rfl⟩⟩ := vals2 r
  refine max_two_ints (I.ok.hd hc) fun h' tk k => ⟨_, H, I.kept k, ?_, q⟩
  by_cases hj : j > i
  · rw [if_pos hj, if_pos hj]; exact ⟨_, rfl⟩
  · rw [if_neg hj, if_neg hj]; exact ⟨_, rfl⟩
end
end L2
namespace L2
open PySem PySem.Spec PyProof.Rows
structure ObjM (h : Heap) (x dx C : Addr) (mA : Str → Option Value) : Prop where
  obj : h.get? x = some (PySem.W.instObj C dx)
  ns : h.Ns1 dx mA
  ne : dx ≠ x
theorem lookIn_ns {h : Heap} {dx : Addr} {mA : Str → Option Value} (n : h.Ns1 dx mA) : ∃ od, h.get? dx = some od ∧ ∀ name, PySem.W.lookIn name od = some (mA name) := by
  obtain ⟨o, es, ep, ho, hd, hk, _, hm⟩ := n
  refine ⟨o, ho, fun name => ?_⟩
  have e := hm name
  unfold nsFind findBy at e
  rw [← Array.find?_toList] at e
  unfold PySem.W.lookIn
  rw [hd]
  dsimp only
  split
  · rename_i y q
    rw [q] at e
    exact congrArg some e
  · rename_i q
    rw [q] at e
    have a : es.toList.any (·.refKey) = false := by
      rw [List.any_eq_false]
      intro y hy
      obtain ⟨z, t, hkey⟩ := hk y (Array.mem_toList_iff.mp hy)
      simp [DictEntry.refKey, hkey]
    have a' : ¬ es.toList.any (·.refKey) = true := by rw [a]; exact Bool.false_ne_true
    rw [if_neg a']
    exact congrArg some e
theorem ObjM.look {h : Heap} {x dx C : Addr} {mA : Str → Option Value} (I : ObjM h x dx C mA) : ∃ od, PySem.W.InstAt h x (PySem.W.instObj C dx) C (some od) ∧ ∀ name, PySem.W.lookIn name od = some (mA name) :=
  let ⟨od, ho, hl⟩ := lookIn_ns I.ns
  ⟨od, ⟨I.obj, rfl, rfl, ho⟩, hl⟩
section
variable {prog : Program} {w : World} {A : Around} {E : Value → Shared → Prop} {s : Shared} {K : PySem.W.Frag} {x dx C f : Addr} {mA : Str → Option Value} {name : Str} {v : Value}
theorem get_map {expr : Bool} {Q : Value → Shared → Prop} (X : K.In s.heap) (I : ObjM s.heap x dx C mA) (hg : PySem.W.plainGet K C name = true) (hh : PySem.W.hasDictIn K C = true)
    (ha : PySem.W.findIn K (.ref C) name = some none) (hv : mA name = some v) (hv' : PySem.W.handedIn v = true) (h : Q v { s with toks := s.toks + 1 }) :
    wpAny (model prog w) A (getAttr (.ref x) name expr) Q E s := by
  obtain ⟨od, J, hl⟩ := I.look
  exact PySem.W.get_value X J (PySem.W.plainGet_of hg).1 (PySem.W.findObj_own hh ha rfl (by rw [hl, hv])) hv' h
theorem get_meth {pl : Sem Bool} {Q : Value × List Value → Shared → Prop} (X : K.In s.heap) (I : ObjM s.heap x dx C mA) (hg : PySem.W.plainGet K C name = true)
    (hf : PySem.W.findIn K (.ref C) name = some (some (.ref f))) (ht : PySem.W.isFn K (.ref f) = true) (hv : mA name = none) (h : Q (.ref f, [.ref x]) s) :
    wpAny (model prog w) A (getMethod (.ref x) name pl) Q E s := by
  obtain ⟨od, J, hl⟩ := I.look
  exact PySem.W.method_fn X J (PySem.W.plainGet_of hg).1 (PySem.W.plainGet_of hg).2 hf (beq_iff_eq.mp ht) (by show (PySem.W.lookIn name od).map (·.isSome) = some false; rw [hl, hv]; rfl) h
theorem set_map {ns : List Str} {Q : Unit → Shared → Prop} (X : K.In s.heap) (I : ObjM s.heap x dx C mA)
    (hs : PySem.W.findIn K (.ref C) "__setattr__" = some (some (.builtin "object.__setattr__"))) (hp : PySem.W.plainOver K C = true) (ht : PySem.W.takerIn K C name = some none) (hh : PySem.W.hasDictIn K C = true)
    (hw : PySem.Within mA ns) (hsz : ns.length ≤ sizeLine)
    (h : ∀ h', ObjM h' x dx C (fun y => if y = name then some v else mA y) → Heap.SameBut dx s.heap h' → Q () { s with heap := h', toks := s.toks + 2 }) :
    wpAny (model prog w) A (setAttr (.ref x) name v) Q E s := by
  obtain ⟨od, J, hl⟩ := I.look
  refine PySem.W.set_plain X J hs (PySem.W.osa_open (s := { s with toks := s.toks + 1 }) (r := none) X J hp ht fun b => ?_)
  obtain ⟨cd, hc, hd'⟩ := PySem.W.any_some hh
  have hx : s.heap.get? x = some ⟨.ref C, some dx, .plain, #[]⟩ := I.obj
  refine wpAny_bind (wpAny_pure (wpAny_bind (wpAny_bind (wpAny_loadPart hx (wpAny_bind (PySem.W.Looks.here (s := { s with toks := s.toks + 1 }) (PySem.W.looks_clsIn X hc) ?_))))))
  rw [hd']
  refine wpAny_pure (a := some dx) (wpAny_bind (wpAny_pure (wpAny_bind ?_)))
  refine wpAny_nsSet1 (s := { s with toks := s.toks + 1 }) I.ns fun h' hn2 hs2 => ?_
  obtain ⟨oD, esD, epD, hoD, hdD, hcD⟩ := hn2.count (PySem.Within.cons name v hw)
  refine wpAny_bind (wpAny_lookBehind hoD (by rw [hdD]; exact pastItsLine_dict (Nat.le_trans hcD (by rw [List.length_cons]; omega))) ?_)
  exact wpAny_pure (h _ ⟨(hs2.2 _ (Ne.symm I.ne)).trans I.obj, hn2, I.ne⟩ hs2)
theorem make_map {R : Result → Shared → Prop} {vs : List Value} {kw : List (Str × Value)} (X : K.In s.heap) (hm : PySem.W.makesIn K C = true)
    (hi : PySem.W.findIn K (.ref C) "__init__" = some (some (.ref f))) (hf : PySem.W.typeIn K (.ref f) = some (.type "function"))
    (h : codeAny (model prog w) (A.under (.builtin "type.__call__" ⟨.ref C :: vs, kw⟩)) (.call (.ref f) ⟨.ref (s.heap.objs.size + 1) :: vs, kw⟩) (PySem.W.InitBack (s.heap.objs.size + 1) R)
      { s with heap := (s.heap.push PySem.W.emptyDict).push (PySem.W.instObj C s.heap.objs.size) }) :
    codeAny (model prog w) A (.call (.ref C) ⟨vs, kw⟩) R s := by
  obtain ⟨hh, g, d, t, os⟩ := s
  exact PySem.W.make_core (PySem.W.makes_of X hm) (PySem.W.looks_findIn X hi) (fun self => PySem.W.bind_fn X self hf) (.inl rfl) h
end
def putF (f : Str) (v : V) : List (Str × V) → List (Str × V)
  | [] => [(f, v)]
  | (g, x) :: r => if g = f then (g, v) :: r else (g, x) :: putF f v r
theorem lookup_putF (f g : Str) (v : V) : ∀ fs : List (Str × V), (putF f v fs).lookup g = if g = f then some v else fs.lookup g
  | [] => by
    show List.lookup g [(f, v)] = _
    by_cases h : g = f
    · have hb : (g == f) = true := beq_iff_eq.mpr h
      simp only [List.lookup, hb, if_pos h]
    · have hb : (g == f) = false := beq_eq_false_iff_ne.mpr h
      simp only [List.lookup, hb, if_neg h]
  | (k, x) :: r => by
    have ih := lookup_putF f g v r
    rw [show putF f v ((k, x) :: r) = (if k = f then (k, v) :: r else (k, x) :: putF f v r) from rfl]
    by_cases hk : k = f
    · rw [if_pos hk]
      by_cases h : g = k
      · have hb : (g == k) = true := beq_iff_eq.mpr h
        simp only [List.lookup, hb, if_pos (h.trans hk)]
      · have hb : (g == k) = false := beq_eq_false_iff_ne.mpr h
        simp only [List.lookup, hb, if_neg (fun e : g = f => h (e.trans hk.symm))]
    · rw [if_neg hk]
      by_cases h : g = k
      · have hb : (g == k) = true := beq_iff_eq.mpr h
        simp only [List.lookup, hb, if_neg (fun e : g = f => hk (h.symm.trans e))]
      · have hb : (g == k) = false := beq_eq_false_iff_ne.mpr h
        simp only [List.lookup, hb]
        exact ih
theorem keys_putF (f : Str) (v : V) : ∀ fs : List (Str × V), f ∈ (putF f v fs).map (·.1) ∧ ∀ g, g ∈ fs.map (·.1) → g ∈ (putF f v fs).map (·.1)
  | [] => ⟨by simp [putF], fun g h => by simp at h⟩
  | (k, x) :: r => by
    obtain ⟨i1, i2⟩ := keys_putF f v r
    rw [show putF f v ((k, x) :: r) = (if k = f then (k, v) :: r else (k, x) :: putF f v r) from rfl]
    by_cases hk : k = f
    · rw [if_pos hk]
      subst hk
      exact ⟨by simp, fun g h => by simpa using h⟩
    · rw [if_neg hk]
      refine ⟨?_, fun g h => ?_⟩
      · rw [List.map_cons]
        exact List.mem_cons_of_mem _ i1
      · rw [List.map_cons] at h ⊢
        rcases List.mem_cons.mp h with e | e
        · exact List.mem_cons.mpr (.inl e)
        · exact List.mem_cons_of_mem _ (i2 g e)
theorem length_putF (f : Str) (v : V) : ∀ fs : List (Str × V), (putF f v fs).length ≤ fs.length + 1
  | [] => by simp [putF]
  | (k, x) :: r => by
    have ih := length_putF f v r
    rw [show putF f v ((k, x) :: r) = (if k = f then (k, v) :: r else (k, x) :: putF f v r) from rfl]
    by_cases hk : k = f
    · rw [if_pos hk, List.length_cons, List.length_cons]; omega
    · rw [if_neg hk, List.length_cons, List.length_cons]; omega
theorem RelO.some_of {v : V} {o : Option Value} (r : RelO (some v) o) : ∃ u, o = some u ∧ RelV v u := by
  cases o with
  | none => exact (show False from r).elim
  | some u => exact ⟨u, rfl, r⟩
theorem RelO.none_of {o : Option Value} (r : RelO none o) : o = none := by
  cases o with
  | none => rfl
  | some u => exact (show False from r).elim
theorem handed_of {v : V} {u : Value} (r : RelV v u) : PySem.W.handedIn u = true := by
  cases v with
  | non => cases (show u = Value.none from r); rfl
  | bl b => cases (show u = Value.bool b from r); rfl
  | int i => obtain ⟨t, e⟩ := (show ∃ t, u = Value.int i t from r); cases e; rfl
  | str x => obtain ⟨t, e⟩ := (show ∃ t, u = Value.str x t from r); cases e; rfl
  | byt b => obtain ⟨t, e⟩ := (show ∃ t, u = Value.bytes b t from r); cases e; rfl
  | flt b => obtain ⟨t, e⟩ := (show ∃ t, u = Value.float b t from r); cases e; rfl
  | ref a => cases (show u = Value.ref a from r); rfl
  | ty n => cases (show u = Value.type n from r); rfl
section
variable {P : Program} {w : World} {H H' : Hp} {h h' : Heap} {a C dx : Addr} {fs fs' : List (Str × V)}
theorem ins_get (hok : HOk P w H h) (e : H a = some (.ins C dx fs)) : ∃ mA, ObjM h a dx C mA ∧ (∀ f, RelO (fs.lookup f) (mA f)) ∧ PySem.Within mA (fs.map (·.1)) ∧ fs.length ≤ 1000 ∧ H dx = some (.own a) := by
  obtain ⟨d, z, ne, ob, mA, n, r, q⟩ := (show ObjOk P w H h a (.ins C dx fs) from hok a _ e)
  exact ⟨mA, ⟨ob, n, ne⟩, r, q, z, d⟩
end
structure Cls (K : PySem.W.Frag) (C : Addr) : Prop where
  pg : PySem.W.plainGet K C Str.empty = true
  hd : PySem.W.hasDictIn K C = true
  po : PySem.W.plainOver K C = true
  sa : PySem.W.findIn K (.ref C) "__setattr__" = some (some (.builtin "object.__setattr__"))
theorem Cls.get {K : PySem.W.Frag} {C : Addr} (c : Cls K C) (f : Str) : PySem.W.plainGet K C f = true := c.pg
def NoAttr (K : PySem.W.Frag) (C : Addr) (f : Str) : Prop := PySem.W.findIn K (.ref C) f = some none
theorem NoAttr.taker {K : PySem.W.Frag} {C : Addr} {f : Str} (n : NoAttr K C f) : PySem.W.takerIn K C f = some none := by
  unfold PySem.W.takerIn
  rw [show PySem.W.findIn K (.ref C) f = some none from n]
  rfl
structure Meth (K : PySem.W.Frag) (C : Addr) (m : Str) (f : Addr) : Prop where
  at_ : PySem.W.findIn K (.ref C) m = some (some (.ref f))
  fn : PySem.W.isFn K (.ref f) = true
  kp : PySem.W.keepIn K (.ref f) = true
section
variable {X : Cx} {pins : List (Addr × Obj)} {σ : St} {H : Hp} {s : Shared} {a C dx : Addr} {fs : List (Str × V)} {f : Str} {v : V} {A : Around} {E : Value → Shared → Prop}
theorem getattr_ok {b : Bool} {Q : Value → Shared → Prop} (I : Inv X pins σ H s) (e : H a = some (.ins C dx fs)) (c : Cls X.K C) (n : NoAttr X.K C f) (l : fs.lookup f = some v)
    (h : ∀ u s', Inv X pins σ H s' → RelV v u → Q u s') : wpAny (model X.prog X.w) A (getAttr (.ref a) f b) Q E s := by
  obtain ⟨mA, O, r, _, _, _⟩ := ins_get I.hok e
  obtain ⟨u, hu, ru⟩ := RelO.some_of (v := v) (o := mA f) (by rw [← l]; exact r f)
  exact get_map I.kIn O (c.get f) c.hd n hu (handed_of ru) (h u _ (I.tok _) ru)
theorem getmeth_ok {m : Str} {g : Addr} {pl : Sem Bool} {Q : Value × List Value → Shared → Prop} (I : Inv X pins σ H s) (e : H a = some (.ins C dx fs)) (c : Cls X.K C) (k : Meth X.K C m g) (l : fs.lookup m = none)
    (h : Q (.ref g, [.ref a]) s) : wpAny (model X.prog X.w) A (getMethod (.ref a) m pl) Q E s := by
  obtain ⟨mA, O, r, _, _, _⟩ := ins_get I.hok e
  have hn : mA m = none := RelO.none_of (by rw [← l]; exact r m)
  exact get_meth I.kIn O (c.get m) k.at_ k.fn hn h
theorem setattr_ok {y : V} {u : Value} {Q : Unit → Shared → Prop} (I : Inv X pins σ H s) (e : H a = some (.ins C dx fs)) (c : Cls X.K C) (n : NoAttr X.K C f) (hl : fs.length < 1000) (ry : RelV y u)
    (h : ∀ s', Inv X pins σ (upd H a (.ins C dx (putF f y fs))) s' → Q () s') : wpAny (model X.prog X.w) A (setAttr (.ref a) f u) Q E s := by
  obtain ⟨mA, O, r, wi, _, ho⟩ := ins_get I.hok e
  have hz : (fs.map (·.1)).length ≤ sizeLine := by rw [List.length_map, sizeLine_eq]; omega
  refine set_map I.kIn O c.sa c.po n.taker c.hd wi hz fun h' O' sb => h _ ?_
  have hd : ∃ o, h'.get? dx = some o := let ⟨o, _, _, e', _⟩ := O'.ns; ⟨o, e'⟩
  refine I.write (x := a) (e := dx) (by rw [e]; exact True.intro) (.inr ho) (fun b q hb z => (sb.2 b hb).trans z) hd ?_
  refine ⟨by rw [upd_ne O.ne]; exact ho, ?_, O.ne, O'.obj, _, O'.ns, fun g => ?_, fun g hg => ?_⟩
  · have := length_putF f y fs; omega
  · show RelO ((putF f y fs).lookup g) (if g = f then some u else mA g)
    rw [lookup_putF]
    by_cases q : g = f
    · rw [if_pos q, if_pos q]; exact ry
    · rw [if_neg q, if_neg q]; exact r g
  · by_cases q : g = f
    · rw [q]; exact (keys_putF f y fs).1
    · refine (keys_putF f y fs).2 g (wi g fun z => hg ?_)
      show (if g = f then some u else mA g) = none
      rw [if_neg q]; exact z
theorem Inv.made (I : Inv X pins σ H s) : Inv X pins σ (upd (upd H s.heap.objs.size (.own (s.heap.objs.size + 1))) (s.heap.objs.size + 1) (.ins C s.heap.objs.size []))
    { s with heap := (s.heap.push PySem.W.emptyDict).push (PySem.W.instObj C s.heap.objs.size) } := by
  have e1 : (s.heap.push PySem.W.emptyDict).get? s.heap.objs.size = some PySem.W.emptyDict := Heap.get?_push_size s.heap rfl
  have e2 : ((s.heap.push PySem.W.emptyDict).push (PySem.W.instObj C s.heap.objs.size)).get? (s.heap.objs.size + 1) = some (PySem.W.instObj C s.heap.objs.size) := by
    have := Heap.get?_push_size (s.heap.push PySem.W.emptyDict) (o := PySem.W.instObj C s.heap.objs.size) rfl
    rwa [Heap.size_push] at this
  have e3 : (s.heap.push PySem.W.emptyDict).Ns s.heap.objs.size (fun _ => none) := ⟨PySem.W.emptyDict, #[], _, e1, rfl, (fun e he => absurd he (by simp)), fun _ => rfl⟩
  have I1 := I.laid (a := s.heap.objs.size) (o := .own (s.heap.objs.size + 1)) (h' := s.heap.push PySem.W.emptyDict) (t' := s.toks) (fun b u q => Heap.get?_push_of_some _ q) (Nat.le_refl _) ⟨_, e1⟩
  refine I1.laid (a := s.heap.objs.size + 1) (o := .ins C s.heap.objs.size []) (t' := s.toks) (fun b u q => Heap.get?_push_of_some _ q) (Nat.le_of_eq (Heap.size_push _ _)) ?_
  have ne : s.heap.objs.size ≠ s.heap.objs.size + 1 := Nat.ne_of_lt (Nat.lt_succ_self _)
  refine ⟨by rw [upd_ne ne, upd_same], Nat.zero_le _, ne, e2, fun _ => none, (Heap.Ns1.of_empty e3).at fun o q => Heap.get?_push_of_some _ q, fun _ => True.intro, fun y hy => absurd rfl hy⟩
theorem attr_of {prog : Program} {w : World} {env : Env} {e : Expr} {f : Str} {pos : Pos} {s : Shared} {Q : Value → Shared → Prop} (hb : attributeBase e f env (eval e env) = eval e env)
    (h : wpAny (model prog w) A (eval e env) (fun o s₁ => wpAny (model prog w) A (getAttr o f true) Q E s₁) E s) : wpAny (model prog w) A (eval (.Attribute e f pos) env) Q E s :=
  Attribute_any_ h (by rw [arm_eval_Attribute, hb])
end
def tFld (K : PySem.W.Frag) (ta : TE) (f : Str) : TE := fun σ H Q => ta σ H fun x H1 => ∃ a C dx fs v, x = .ref a ∧ H1 a = some (.ins C dx fs) ∧ Cls K C ∧ NoAttr K C f ∧ fs.lookup f = some v ∧ Q v H1
def sFld (K : PySem.W.Frag) (ta tv : TE) (f : Str) : TS := fun D σ H => tv σ H fun y H1 => ta σ H1 fun x H2 => ∃ a C dx fs, x = .ref a ∧ H2 a = some (.ins C dx fs) ∧ Cls K C ∧ NoAttr K C f ∧ fs.length < 1000 ∧
  D.nx σ (upd H2 a (.ins C dx (putF f y fs)))
def InOp (X : Cx) (op : Operator) (rd : V → V → Hp → VK → Prop) : Prop :=
  ∀ (pins : List (Addr × Obj)) (s : Shared) (σ : St) (H : Hp) (x y : V) (u v : Value) (Q : VK), Inv X pins σ H s → RelV x u → RelV y v → rd x y H Q → wpAny (model X.prog X.w) X.A (inplaceOp op u v) (EP X pins σ Q) X.xe s
def sFldAug (K : PySem.W.Frag) (ta tv : TE) (rd : V → V → Hp → VK → Prop) (f : Str) : TS := fun D σ H => ta σ H fun x H1 => ∃ a C dx fs v, x = .ref a ∧ H1 a = some (.ins C dx fs) ∧ Cls K C ∧ NoAttr K C f ∧ fs.lookup f = some v ∧
  tv σ H1 fun y H2 => rd v y H2 fun z H3 => ∃ dx' fs', H3 a = some (.ins C dx' fs') ∧ fs'.length < 1000 ∧ D.nx σ (upd H3 a (.ins C dx' (putF f z fs')))
section
variable {X : Cx} {o e value : Expr} {f : Str} {pos pos' tpos : Pos} {ta tv : TE}
theorem pe_fld (he : PE X e ta) (hb : attributeBase e f X.env (eval e X.env) = eval e X.env) : PE X (.Attribute e f pos) (tFld X.K ta f) := by
  intro pins s σ H Q I h
  refine attr_of hb (thn (he pins s σ H _ I h) fun u s1 ⟨x, H1, I1, rx, a, C, dx, fs, v, ex, ea, c, n, l, q⟩ => ?_)
  subst ex
  obtain rfl : u = Value.ref a := rx
  exact getattr_ok I1 ea c n l fun u' s2 I2 ru => ⟨v, H1, I2, ru, q⟩
theorem ps_fld (ha : PE X o ta) (hv : PE X value tv) (hs : swapsWith value (some (.Attribute o f pos')) pos.line X.env = pure false) : PS X (.Assign [.Attribute o f pos'] value pos) (sFld X.K ta tv f) := by
  intro pins s σ H D I h
  refine plainObj_wpAny_Assign_Attribute (thn (hv pins s σ H _ I h) fun u s1 ⟨y, H1, I1, ry, q⟩ => thn (ha pins s1 σ H1 _ I1 q) fun ov s2 ⟨x, H2, I2, rx, a, C, dx, fs, ex, ea, c, n, l, q2⟩ => ?_) hs
  subst ex
  obtain rfl : ov = Value.ref a := rx
  exact setattr_ok I2 ea c n l ry fun s3 I3 => ⟨σ, _, I3, q2⟩
theorem ps_fldaug {op : Operator} {rd : V → V → Hp → VK → Prop} (ha : PE X o ta) (hv : PE X value tv) (hop : InOp X op rd) : PS X (.AugAssign (.Attribute o f tpos) op value pos) (sFldAug X.K ta tv rd f) := by
  intro pins s σ H D I h
  refine wpAny_AugAssign_AttributeAny (thn (ha pins s σ H _ I h) fun ov s1 ⟨x, H1, I1, rx, a, C, dx, fs, v, ex, ea, c, n, l, q⟩ => ?_)
  subst ex
  obtain rfl : ov = Value.ref a := rx
  refine getattr_ok I1 ea c n l fun u s2 I2 ru => thn (hv pins s2 σ H1 _ I2 q) fun w3 s3 ⟨y, H2, I3, ry, q3⟩ => thn (hop pins s3 σ H2 v y u w3 _ I3 ru ry q3) fun w4 s4 ⟨z, H3, I4, rz, dx', fs', ea', l', q4⟩ => ?_
  exact setattr_ok I4 ea' c n l' rz fun s5 I5 => ⟨σ, _, I5, q4⟩
def rAdd : V → V → Hp → VK → Prop := fun x y H Q => ∃ i j, x = .int i ∧ y = .int j ∧ Q (.int (i + j)) H
def rSub : V → V → Hp → VK → Prop := fun x y H Q => ∃ i j, x = .int i ∧ y = .int j ∧ Q (.int (i - j)) H
theorem in_add : InOp X .Add rAdd := by
  rintro pins s σ H x y u v Q I rx ry ⟨i, j, rfl, rfl, q⟩
  obtain ⟨t, rfl⟩ := (show ∃ t, u = Value.int i t from rx)
  obtain ⟨t', rfl⟩ := (show ∃ t', v = Value.int j t' from ry)
  exact PyProof.Rows.iadd_int ⟨.int (i + j), H, I.tok _, ⟨_, rfl⟩, q⟩
theorem in_sub : InOp X .Sub rSub := by
  rintro pins s σ H x y u v Q I rx ry ⟨i, j, rfl, rfl, q⟩
  obtain ⟨t, rfl⟩ := (show ∃ t, u = Value.int i t from rx)
  obtain ⟨t', rfl⟩ := (show ∃ t', v = Value.int j t' from ry)
  exact PyProof.Rows.isub_int ⟨.int (i - j), H, I.tok _, ⟨_, rfl⟩, q⟩
end
section
variable {X : Cx} {pins : List (Addr × Obj)} {σ : St} {H : Hp} {s : Shared} {A : Around} {E : Value → Shared → Prop} {Q : Value → Shared → Prop} {c : Value} {b : Bool}
end
end L2
namespace L2
open PySem PySem.Spec PyProof.Rows
structure Room (k : Nat) (A : Around) : Prop where
  hd : A.handled = none
  dp : A.depth + 3 * k + 5 < recursionLimit
  un : A.units + 16 * k + 200 < cLine
theorem Room.mono {j k : Nat} {A : Around} (r : Room k A) (h : j ≤ k) : Room j A := ⟨r.hd, by have := r.dp; omega, by have := r.un; omega⟩
theorem Room.deeper {k : Nat} {A : Around} (r : Room (k + 1) A) (env : Env) : Room k (A.deeper env) :=
  ⟨r.hd, by have := r.dp; show A.depth + 1 + 3 * k + 5 < _; omega, by have := r.un; show A.units + 3 + 16 * k + 200 < _; omega⟩
theorem make_depth {A : Around} {C : Addr} {us : List Value} {kw : List (Str × Value)} : (A.under (.builtin "type.__call__" ⟨.ref C :: us, kw⟩)).depth = A.depth + 1 := by
  first | rfl | simp [Around.under, Code.weight, Code.isCreation, Code.isGuard, Code.isCaller, Code.frames, Code.isFrame, guardIds]
theorem make_units {A : Around} {C : Addr} {us : List Value} {kw : List (Str × Value)} : (A.under (.builtin "type.__call__" ⟨.ref C :: us, kw⟩)).units = A.units + 1 := by
  first | rfl | simp [Around.under, Code.cUnits, Code.frames, Code.isFrame]
theorem Room.make {k : Nat} {A : Around} (r : Room (k + 1) A) (C : Addr) (us : List Value) (kw : List (Str × Value)) : Room k (A.under (.builtin "type.__call__" ⟨.ref C :: us, kw⟩)) :=
  ⟨r.hd, by have := r.dp; rw [make_depth]; omega, by have := r.un; rw [make_units]; omega⟩
theorem Room.depth {k : Nat} {A : Around} (r : Room k A) : A.depth < recursionLimit := by have := r.dp; omega
theorem Room.units {k : Nat} {A : Around} (r : Room k A) : A.units + 64 < cLine := by have := r.un; omega
def tNil : TA := fun _ H Q => Q [] H
def tCons (ta : TE) (tr : TA) : TA := fun σ H Q => ta σ H fun x H1 => tr σ H1 fun xs H2 => Q (x :: xs) H2
section
variable {X : Cx} {e : Expr} {es : List Expr} {te : TE} {t : TA} {pos : Pos}
theorem pa_nil : PA X [] tNil := fun _ _ _ _ H Q I h => Calls.spliced_nil ⟨[], H, I, .nil, h⟩
theorem pa_cons (ha : PE X e te) (hr : PA X es t) (hs : starEach (e :: es) X.env = (false, eval e X.env) :: starEach es X.env := by rfl) : PA X (e :: es) (tCons te t) := by
  intro pos pins s σ H Q I h
  rw [hs]
  show wpAny _ _ (spliced ((false, eval e X.env) :: backTo pos (starEach es X.env))) _ _ s
  refine Calls.spliced_cons (thn (ha pins s σ H _ I h) fun u s1 ⟨x, H1, I1, r1, q1⟩ => ?_)
  exact thn (hr pos pins s1 σ H1 _ I1 q1) fun us s2 ⟨xs, H2, I2, r2, q2⟩ => ⟨x :: xs, H2, I2, .cons r1 r2, q2⟩
def tTup (t : TA) : TE := fun σ H Q => t σ H fun xs H1 => xs.length ≤ sizeLine ∧ ∀ p, H1 p = none → Q (.ref p) (upd H1 p (.tup xs))
def tLst (t : TA) : TE := fun σ H Q => t σ H fun xs H1 => xs.length ≤ sizeLine ∧ ∀ p, H1 p = none → Q (.ref p) (upd H1 p (.lst xs))
theorem pe_tup {x1} (h : PA X es t) : PE X (.Tuple es x1 pos) (tTup t) := by
  intro pins s σ H Q I hq
  refine wpAny_Tuple_spliced (thn (h pos pins s σ H _ I hq) fun us s1 ⟨xs, H1, I1, r, z, q⟩ => ⟨by rw [← r.length]; exact z, ?_⟩)
  have hf : H1 s1.heap.objs.size = none := I1.hok.fresh (Nat.le_refl _)
  refine ⟨.ref s1.heap.objs.size, upd H1 s1.heap.objs.size (.tup xs), I1.laid (t' := s1.toks) (fun b u e => Heap.get?_push_of_some _ e) (Nat.le_refl _) ?_, rfl, q _ hf⟩
  exact ⟨z, us, r, ⟨_, Heap.get?_push_size _ rfl, rfl, _, rfl⟩⟩
theorem pe_lst (h : PA X es t) : PE X (.List es pos) (tLst t) := by
  intro pins s σ H Q I hq
  refine wpAny_List_spliced (thn (h pos pins s σ H _ I hq) fun us s1 ⟨xs, H1, I1, r, z, q⟩ => ⟨by rw [← r.length]; exact z, ?_⟩)
  have hf : H1 s1.heap.objs.size = none := I1.hok.fresh (Nat.le_refl _)
  refine ⟨.ref s1.heap.objs.size, upd H1 s1.heap.objs.size (.lst xs), I1.laid (t' := s1.toks) (fun b u e => Heap.get?_push_of_some _ e) (Nat.le_refl _) ?_, rfl, q _ hf⟩
  exact ⟨z, us, 0, r, Heap.get?_push_size _ rfl⟩
end
abbrev Sp := List V → Hp → VK → XK → Prop
abbrev CXT := List Env → Hp → Shared → XK → Value → Shared → Prop
structure Env0 (P : Program) (w : World) (K : PySem.W.Frag) (mg : Str → Option Value) (base : Heap) (A : Around) (outer : List Env) (s : Shared) (H : Hp) : Prop where
  frames : A.frames = some outer
  mod : Mod K mg base
  bs : ∀ b o, base.get? b = some o → s.heap.get? b = some o ∧ H b = none
  bsz : base.objs.size ≤ s.heap.objs.size
  funs : s.heap.FunFrames base outer
  frf : ∀ b ∈ frs outer, H b = none
  hok : HOk P w H s.heap
  bare : AllBare s.gens
def CE (outer : List Env) (P : Program) (w : World) (H : Hp) (s : Shared) (Q : VK) (u : Value) (s' : Shared) : Prop :=
  ∃ v H', s'.os = s.os ∧ AllBare s'.gens ∧ Un (frs outer) [] H H' s.heap s'.heap ∧ HOk P w H' s'.heap ∧ RelV v u ∧ Q v H'
def CR (CX : CXT) (outer : List Env) (P : Program) (w : World) (H : Hp) (s : Shared) (Q : VK) (E : XK) (r : Result) (s' : Shared) : Prop :=
  match r with
  | .ok (.ret u) => CE outer P w H s Q u s'
  | .ok _ => False
  | .error e => CX outer H s E e s'
structure FnOk (P : Program) (w : World) (K : PySem.W.Frag) (mg : Str → Option Value) (base : Heap) (CX : CXT) (k : Nat) (f : Addr) (fd : FuncData) (ps : List Str) (sp : Sp) : Prop where
  len : ∀ vs H Q E, sp vs H Q E → vs.length = ps.length
  run : ∀ (A : Around) (outer : List Env) (s : Shared) (H : Hp) (args : Args) (us : List Value) (vs : List V) (Q : VK) (E : XK), Room k A → Env0 P w K mg base A outer s H → BindsTo s fd args (ps.zip us) → Vals vs us → sp vs H Q E →
    codeAny (model P w) A (.call (.ref f) args) (CR CX outer P w H s Q E) s
theorem FnOk.mono {P : Program} {w : World} {K : PySem.W.Frag} {mg : Str → Option Value} {base : Heap} {CX : CXT} {j k : Nat} {f : Addr} {fd : FuncData} {ps : List Str} {sp : Sp} (F : FnOk P w K mg base CX j f fd ps sp) (h : j ≤ k) :
    FnOk P w K mg base CX k f fd ps sp := ⟨F.len, fun A outer s H args us vs Q E hr => F.run A outer s H args us vs Q E (hr.mono h)⟩
theorem Env0.make {P : Program} {w : World} {K : PySem.W.Frag} {mg : Str → Option Value} {base : Heap} {A : Around} {outer : List Env} {s : Shared} {H : Hp} (e : Env0 P w K mg base A outer s H) (C : Addr) (us : List Value) (kw : List (Str × Value)) :
    Env0 P w K mg base (A.under (.builtin "type.__call__" ⟨.ref C :: us, kw⟩)) outer s H := ⟨by first | exact e.frames | (simpa [Around.under, Code.envs, Code.isFrame, pushEnvs] using e.frames), e.mod, e.bs, e.bsz, e.funs, e.frf, e.hok, e.bare⟩
section
variable {X : Cx} {pins : List (Addr × Obj)} {σ : St} {H : Hp} {s s' : Shared}
theorem Inv.env0 (I : Inv X pins σ H s) : Env0 X.prog X.w X.K X.mg X.base X.A X.stack s H :=
  ⟨I.ok.frames, I.ok.mod, I.bs, Nat.le_trans I.ok.bsz I.sz, I.stack, I.stkFree, I.hok, I.bare⟩
theorem Inv.after {Q : VK} {u : Value} (I : Inv X pins σ H s) (h : CE X.stack X.prog X.w H s Q u s') : EP X pins σ Q u s' := by
  obtain ⟨v, H', os, bare, un, hok, r, q⟩ := h
  obtain ⟨hh, g, d, t, os'⟩ := s'
  obtain rfl : os' = s.os := os
  exact ⟨v, H', I.call (h' := hh) (g' := g) (d' := d) (t' := t) (ch := []) un hok bare (fun b z => absurd z (by simp)), r, q⟩
end
def tCall (sp : Sp) (dvs : List V) (E : XK) (t : TA) : TE := fun σ H Q => t σ H fun vs H1 => sp (vs ++ dvs) H1 Q E
def tMeth (C : Addr) (m : Str) (sp : Sp) (dvs : List V) (E : XK) (ta : TE) (t : TA) : TE := fun σ H Q => ta σ H fun x H1 => ∃ a dx fs, x = .ref a ∧ H1 a = some (.ins C dx fs) ∧ fs.lookup m = none ∧
  t σ H1 fun vs H2 => sp (x :: (vs ++ dvs)) H2 Q E
def tMake (C : Addr) (sp : Sp) (dvs : List V) (E : XK) (t : TA) : TE := fun σ H Q => t σ H fun vs H1 => ∀ x dx, H1 x = none → H1 dx = none → dx ≠ x →
  sp (.ref x :: (vs ++ dvs)) (upd (upd H1 dx (.own x)) x (.ins C dx [])) (fun v H2 => v = .non ∧ Q (.ref x) H2) E
def Binds (K : PySem.W.Frag) (fd : FuncData) (ps : List Str) (ds : List Value) : Prop :=
  ∀ (s : Shared) (us : List Value), K.In s.heap → (us ++ ds).length = ps.length → BindsTo s fd ⟨us, []⟩ (ps.zip (us ++ ds))
theorem Binds.all {K : PySem.W.Frag} {fd : FuncData} {ps : List Str} (h : ∀ us : List Value, us.length = ps.length → bindArgs fd ⟨us, []⟩ = pure (ps.zip us)) : Binds K fd ps [] := fun s us _ hl => by
  rw [List.append_nil] at hl ⊢
  exact .of_eq (h us hl)
def Passes (CX : CXT) (X : Cx) (E : XK) : Prop := ∀ (pins : List (Addr × Obj)) (σ : St) (H : Hp) (s : Shared) (e : Value) (s' : Shared), Inv X pins σ H s → CX X.stack H s E e s' → X.xe e s'
section
variable {X : Cx} {CX : CXT} {k : Nat} {f C : Addr} {fd : FuncData} {ps : List Str} {sp : Sp} {dvs : List V} {ds : List Value} {E : XK} {x m : Str} {p pos apos : Pos} {e o : Expr} {es : List Expr} {ta : TE} {t : TA}
theorem run_fn {pins : List (Addr × Obj)} {σ : St} {H : Hp} {s : Shared} {Q : VK} {us : List Value} {vs : List V} (F : FnOk X.prog X.w X.K X.mg X.base CX k f fd ps sp) (hr : Room k X.A) (hb : Binds X.K fd ps ds) (hd : Vals dvs ds) (hx : Passes CX X E)
    (I : Inv X pins σ H s) (r : Vals vs us) (h : sp (vs ++ dvs) H Q E) : wpAny (model X.prog X.w) X.A (call (.ref f) us) (EP X pins σ Q) X.xe s := by
  have r2 : Vals (vs ++ dvs) (us ++ ds) := r.append hd
  have hl : (us ++ ds).length = ps.length := by rw [← r2.length]; exact F.len _ _ _ _ h
  refine wpAny_call (codeAny_mono (F.run X.A X.stack s H ⟨us, []⟩ (us ++ ds) (vs ++ dvs) Q E hr I.env0 (hb s us I.kIn hl) r2 h) fun r s' hq => ?_)
  cases r with
  | error e => exact hx pins σ H s e s' I hq
  | ok fl =>
    cases fl with
    | ret u => exact I.after hq
    | next => exact False.elim hq
    | brk => exact False.elim hq
    | cont => exact False.elim hq
theorem pe_call (F : FnOk X.prog X.w X.K X.mg X.base CX k f fd ps sp) (hr : Room k X.A) (hg : Gl X x) (hm : X.mg x = some (.ref f)) (hk : PySem.W.keepIn X.K (.ref f) = true) (hb : Binds X.K fd ps ds) (hd : Vals dvs ds) (hx : Passes CX X E)
    (ha : PA X (e :: es) t) (hdb : (x == ("__debug__" : Str)) = false := by decide) (he : starEach (e :: es) X.env = (false, eval e X.env) :: starEach es X.env := by rfl) (hpl : (backTo pos (starEach es X.env)).any (·.1) = false := by rfl) :
    PE X (.Call (.Name x p) (e :: es) [] pos) (tCall sp dvs E t) := by
  intro pins s σ H Q I h
  refine wpAny_Call_Name_kw (ld_glob I hg hm ?_ hdb)
  refine PySem.W.callWith_K (h₀ := X.base) I.ok.mod.kin hk (thn (ha pos pins s σ H _ I h) fun us s1 ⟨vs, H1, I1, r, q⟩ => ⟨I1.kIn, ?_⟩) he hpl
  exact run_fn F hr hb hd hx I1 r q
theorem pe_call0 (F : FnOk X.prog X.w X.K X.mg X.base CX k f fd ps sp) (hr : Room k X.A) (hg : Gl X x) (hm : X.mg x = some (.ref f)) (hk : PySem.W.keepIn X.K (.ref f) = true) (hb : Binds X.K fd ps ds) (hd : Vals dvs ds) (hx : Passes CX X E)
    (hdb : (x == ("__debug__" : Str)) = false := by decide) : PE X (.Call (.Name x p) [] [] pos) (tCall sp dvs E tNil) := by
  intro pins s σ H Q I h
  refine wpAny_Call_Name_kw (ld_glob I hg hm ?_ hdb)
  exact PySem.W.callWith_K0 I.kIn hk (run_fn (us := []) F hr hb hd hx I .nil h)
theorem pe_meth {pl : Sem Bool} (he : PE X o ta) (c : Cls X.K C) (hm : Meth X.K C m f) (F : FnOk X.prog X.w X.K X.mg X.base CX k f fd ps sp) (hr : Room k X.A) (hb : Binds X.K fd ps ds) (hd : Vals dvs ds) (hx : Passes CX X E) (ha : PA X (e :: es) t)
    (hst : starEach (e :: es) X.env = (false, eval e X.env) :: starEach es X.env := by rfl) (hpl : (backTo pos (starEach es X.env)).any (·.1) = false := by rfl)
    (ht : eval (.Call (.Attribute o m apos) (e :: es) [] pos) X.env = (do
      let ov ← eval o X.env
      standAt apos.atName
      let (f, first) ← holding [ov] (getMethod ov m pl)
      callWith pos f first (backTo pos (starEach (e :: es) X.env)) (backToKw pos (keywordEach [] X.env))) := by rfl) :
    PE X (.Call (.Attribute o m apos) (e :: es) [] pos) (tMeth C m sp dvs E ta t) := by
  intro pins s σ H Q I h
  refine PySem.W.methodCall_KW (pl := pl) (thn (he pins s σ H _ I h) fun u s1 ⟨x, H1, I1, rx, a, dx, fs, ex, ea, l, q⟩ => ?_) ht
  subst ex
  obtain rfl : u = Value.ref a := rx
  refine getmeth_ok I1 ea c hm l ?_
  refine PySem.W.callWith_K (first := [.ref a]) (h₀ := X.base) I.ok.mod.kin hm.kp (thn (ha pos pins s1 σ H1 _ I1 q) fun us s2 ⟨vs, H2, I2, r, q2⟩ => ⟨I2.kIn, ?_⟩) hst hpl
  exact run_fn (us := .ref a :: us) (vs := .ref a :: vs) F hr hb hd hx I2 (.cons rfl r) q2
theorem pe_meth0 {pl : Sem Bool} (he : PE X o ta) (c : Cls X.K C) (hm : Meth X.K C m f) (F : FnOk X.prog X.w X.K X.mg X.base CX k f fd ps sp) (hr : Room k X.A) (hb : Binds X.K fd ps ds) (hd : Vals dvs ds) (hx : Passes CX X E)
    (ht : eval (.Call (.Attribute o m apos) [] [] pos) X.env = (do
      let ov ← eval o X.env
      standAt apos.atName
      let (f, first) ← holding [ov] (getMethod ov m pl)
      callWith pos f first (backTo pos (starEach [] X.env)) (backToKw pos (keywordEach [] X.env))) := by rfl) :
    PE X (.Call (.Attribute o m apos) [] [] pos) (tMeth C m sp dvs E ta tNil) := by
  intro pins s σ H Q I h
  refine PySem.W.methodCall_KW (pl := pl) (thn (he pins s σ H _ I h) fun u s1 ⟨x, H1, I1, rx, a, dx, fs, ex, ea, l, q⟩ => ?_) ht
  subst ex
  obtain rfl : u = Value.ref a := rx
  refine getmeth_ok I1 ea c hm l ?_
  exact PySem.W.callWith_K0 (first := [.ref a]) I1.kIn hm.kp (run_fn (us := [.ref a]) (vs := [.ref a]) F hr hb hd hx I1 (.cons rfl .nil) q)
structure Mk (K : PySem.W.Frag) (C f : Addr) : Prop where
  makes : PySem.W.makesIn K C = true
  init : PySem.W.findIn K (.ref C) "__init__" = some (some (.ref f))
  fn : PySem.W.isFn K (.ref f) = true
  kp : PySem.W.keepIn K (.ref C) = true
theorem run_make {pins : List (Addr × Obj)} {σ : St} {H : Hp} {s : Shared} {Q : VK} {us : List Value} {vs : List V} (M : Mk X.K C f) (F : FnOk X.prog X.w X.K X.mg X.base CX k f fd ps sp) (hr : Room (k + 1) X.A) (hb : Binds X.K fd ps ds) (hd : Vals dvs ds)
    (hx : Passes CX X E) (I : Inv X pins σ H s) (r : Vals vs us)
    (h : ∀ x dx, H x = none → H dx = none → dx ≠ x → sp (.ref x :: (vs ++ dvs)) (upd (upd H dx (.own x)) x (.ins C dx [])) (fun v H2 => v = .non ∧ Q (.ref x) H2) E) :
    wpAny (model X.prog X.w) X.A (call (.ref C) us) (EP X pins σ Q) X.xe s := by
  have hq := h (s.heap.objs.size + 1) s.heap.objs.size (I.hok.fresh (Nat.le_succ _)) (I.hok.fresh (Nat.le_refl _)) (Nat.ne_of_lt (Nat.lt_succ_self _))
  have I2 := Inv.made (C := C) I
  have r2 : Vals (V.ref (s.heap.objs.size + 1) :: (vs ++ dvs)) (Value.ref (s.heap.objs.size + 1) :: (us ++ ds)) := .cons rfl (r.append hd)
  have hl : (Value.ref (s.heap.objs.size + 1) :: us ++ ds).length = ps.length := by
    have e := r2.length
    rw [F.len _ _ _ _ hq] at e
    exact e.symm
  refine wpAny_call (make_map (f := f) I.kIn M.makes M.init (beq_iff_eq.mp M.fn) (codeAny_mono (F.run _ X.stack _ _ ⟨Value.ref (s.heap.objs.size + 1) :: us, []⟩ (Value.ref (s.heap.objs.size + 1) :: (us ++ ds)) _ _ E (hr.make C us [])
    (I2.env0.make C us []) (hb _ (Value.ref (s.heap.objs.size + 1) :: us) I2.kIn hl) r2 hq) fun r s' hq' => ?_))
  cases r with
  | error e => exact hx pins σ _ _ e s' I2 hq'
  | ok fl =>
    cases fl with
    | ret u =>
      obtain ⟨v, H', I3, rv, ev, q3⟩ := I2.after hq'
      subst ev
      exact ⟨rv, ⟨V.ref (s.heap.objs.size + 1), H', I3, rfl, q3⟩⟩
    | next => exact False.elim hq'
    | brk => exact False.elim hq'
    | cont => exact False.elim hq'
theorem pe_make (M : Mk X.K C f) (F : FnOk X.prog X.w X.K X.mg X.base CX k f fd ps sp) (hr : Room (k + 1) X.A) (hg : Gl X x) (hm : X.mg x = some (.ref C)) (hb : Binds X.K fd ps ds) (hd : Vals dvs ds) (hx : Passes CX X E)
    (ha : PA X (e :: es) t) (hdb : (x == ("__debug__" : Str)) = false := by decide) (he : starEach (e :: es) X.env = (false, eval e X.env) :: starEach es X.env := by rfl) (hpl : (backTo pos (starEach es X.env)).any (·.1) = false := by rfl) :
    PE X (.Call (.Name x p) (e :: es) [] pos) (tMake C sp dvs E t) := by
  intro pins s σ H Q I h
  refine wpAny_Call_Name_kw (ld_glob I hg hm ?_ hdb)
  refine PySem.W.callWith_K (h₀ := X.base) I.ok.mod.kin M.kp (thn (ha pos pins s σ H _ I h) fun us s1 ⟨vs, H1, I1, r, q⟩ => ⟨I1.kIn, ?_⟩) he hpl
  exact run_make M F hr hb hd hx I1 r q
end
def PK (X : Cx) (kws : List Keyword) (t : TA) : Prop :=
  ∀ (pos : Pos) (pins : List (Addr × Obj)) (s : Shared) (σ : St) (H : Hp) (Q : List V → Hp → Prop), Inv X pins σ H s → t σ H Q → wpAny (model X.prog X.w) X.A (evalAll ((backToKw pos (keywordEach kws X.env)).map (·.2))) (AP X pins σ Q) X.xe s
section
variable {X : Cx} {CX : CXT} {k : Nat} {f C : Addr} {fd : FuncData} {ps ks : List Str} {sp : Sp} {E : XK} {x m : Str} {p pos apos kpos : Pos} {e o : Expr} {es : List Expr} {kws : List Keyword} {te ta : TE} {t tk : TA} {nm : Option Str}
theorem pk_nil : PK X [] tNil := fun _ _ _ _ H Q I h => wpAny_evalAll_nil ⟨[], H, I, .nil, h⟩
theorem pk_cons (ha : PE X e te) (hr : PK X kws t) : PK X (⟨nm, e, kpos⟩ :: kws) (tCons te t) := by
  intro pos pins s σ H Q I h
  show wpAny _ _ (evalAll ((do let v ← eval e X.env; standAt pos; pure v) :: (backToKw pos (keywordEach kws X.env)).map (·.2))) _ _ s
  refine wpAny_evalAll_cons (wpAny_bind (thn (ha pins s σ H _ I h) fun u s1 ⟨x, H1, I1, r1, q1⟩ => wpAny_bind (wpAny_standAt (wpAny_pure ?_))))
  exact thn (hr pos pins s1 σ H1 _ I1 q1) fun us s2 ⟨xs, H2, I2, r2, q2⟩ => ⟨x :: xs, H2, I2, .cons r1 r2, q2⟩
variable {g : List Value → List Value → List Value} {gV : List V → List V → List V}
end
structure FnScope (N P : List Str) (sc : Scope) : Prop where
  kind : sc.kind = .function
  co : sc.isCoroutine = false
  gen : sc.isGenerator = false
  nd : N.Nodup
  pre : N.take P.length = P
  par : ∀ x ∈ P, sc.names.lookup x = some .local ∨ sc.names.lookup x = some .cell
  nofree : ∀ y ∈ sc.names, y.2 ≠ .free
theorem bindL_out {kindOf : Str → Option NameKind} {x : Str} : ∀ {binds : List (Str × Value)} {m : Str → Option Value}, (∀ v, (x, v) ∉ binds) → bindL kindOf binds m x = m x
  | [], _, _ => rfl
  | (n, v) :: r, m, h => by
    unfold bindL
    rw [bindL_out fun w hw => h w (List.mem_cons_of_mem _ hw)]
    split
    · have : x ≠ n := by rintro rfl; exact h v List.mem_cons_self
      simp [this]
    · rfl
theorem bindC_out {kindOf : Str → Option NameKind} {x : Str} : ∀ {binds : List (Str × Value)} {m : Str → Option Value}, (∀ v, (x, v) ∉ binds) → bindC kindOf binds m x = m x
  | [], _, _ => rfl
  | (n, v) :: r, m, h => by
    unfold bindC
    rw [bindC_out fun w hw => h w (List.mem_cons_of_mem _ hw)]
    split
    · rfl
    · have : x ≠ n := by rintro rfl; exact h v List.mem_cons_self
      simp [this]
theorem bindL_get {kindOf : Str → Option NameKind} {x : Str} {v : Value} : ∀ {P : List Str} {vs : List Value} {i : Nat} {m : Str → Option Value}, P.Nodup → P[i]? = some x → vs[i]? = some v → kindOf x = some .local →
    bindL kindOf (P.zip vs) m x = some v
  | [], _, _, _, _, h, _, _ => by simp at h
  | _ :: _, [], _, _, _, _, h, _ => by simp at h
  | p :: P, w :: vs, 0, m, nd, h1, h2, hk => by
    simp at h1 h2; subst h1; subst h2
    show bindL kindOf ((p, w) :: P.zip vs) m p = _
    unfold bindL
    rw [bindL_out fun v hv => (List.nodup_cons.mp nd).1 (List.of_mem_zip hv).1, if_pos hk]
    simp
  | p :: P, w :: vs, i + 1, m, nd, h1, h2, hk => by
    show bindL kindOf ((p, w) :: P.zip vs) m x = _
    unfold bindL
    exact bindL_get (i := i) (List.nodup_cons.mp nd).2 (by simpa using h1) (by simpa using h2) hk
theorem bindC_get {kindOf : Str → Option NameKind} {x : Str} {v : Value} : ∀ {P : List Str} {vs : List Value} {i : Nat} {m : Str → Option Value}, P.Nodup → P[i]? = some x → vs[i]? = some v → kindOf x ≠ some .local →
    bindC kindOf (P.zip vs) m x = some v
  | [], _, _, _, _, h, _, _ => by simp at h
  | _ :: _, [], _, _, _, _, h, _ => by simp at h
  | p :: P, w :: vs, 0, m, nd, h1, h2, hk => by
    simp at h1 h2; subst h1; subst h2
    show bindC kindOf ((p, w) :: P.zip vs) m p = _
    unfold bindC
    rw [bindC_out fun v hv => (List.nodup_cons.mp nd).1 (List.of_mem_zip hv).1, if_neg hk]
    simp
  | p :: P, w :: vs, i + 1, m, nd, h1, h2, hk => by
    show bindC kindOf ((p, w) :: P.zip vs) m x = _
    unfold bindC
    exact bindC_get (i := i) (List.nodup_cons.mp nd).2 (by simpa using h1) (by simpa using h2) hk
def start (N : List Str) (vs : List V) : St := vs.map some ++ List.replicate (N.length - vs.length) none
def cxOf (CX : CXT) (P : Program) (w : World) (K : PySem.W.Frag) (mg : Str → Option Value) (base : Heap) (N : List Str) (qual : Str) (scope : Scope) (f : Addr) (cd : Value) (A : Around) (outer : List Env) (s : Shared) (H : Hp) (E : XK) : Cx where
  prog := P
  w := w
  K := K
  mg := mg
  base := base
  A := A.deeper (envOfC qual scope s.heap.objs.size f cd)
  N := N
  s_0 := s
  H_0 := H
  env := envOfC qual scope s.heap.objs.size f cd
  outer := outer
  stack := envOfC qual scope s.heap.objs.size f cd :: outer
  ex := []
  calm := true
  fn := fun _ => true
  pn := []
  xe := fun e s' => wpAny (model P w) (A.deeper (envOfC qual scope s.heap.objs.size f cd)) (leaving (envOfC qual scope s.heap.objs.size f cd) e) (fun _ s'' => CX outer H s E e s'') (fun e' s'' => CX outer H s E e' s'') s'
theorem cell_has {sc : Scope} {n : Nat} {x : Str} (h : sc.names.lookup x = some .cell) : ∃ c, (cellsFrom n sc.names []).lookup x = some c := by
  have q := PySem.W.cellsFrom_some sc.names n [] (.inl h)
  exact Option.isSome_iff_exists.mp q
theorem inv_start {CX : CXT} {P : Program} {w : World} {K : PySem.W.Frag} {mg : Str → Option Value} {base : Heap} {N ps : List Str} {qual : Str} {scope : Scope} {f : Addr} {cd : Value} {A : Around} {outer : List Env} {s s1 : Shared} {H : Hp} {E : XK} {us : List Value} {vs : List V}
    (S : FnScope N ps scope) (hd : A.handled = none) (e0 : Env0 P w K mg base A outer s H) (hl : vs.length = ps.length) (r : Vals vs us)
    (x : InCallC s s.heap.objs.size (bindL (envOfC qual scope s.heap.objs.size f cd).kindOf (ps.zip us) fun _ => none) (cellsFrom (s.heap.objs.size + 1) scope.names []) (bindC (envOfC qual scope s.heap.objs.size f cd).kindOf (ps.zip us) fun _ => none) s1) :
    Inv (cxOf CX P w K mg base N qual scope f cd A outer s H E) [] (start N vs) H s1 := by
  have hpl : ps.length ≤ N.length := by have := congrArg List.length S.pre; rw [List.length_take] at this; omega
  obtain ⟨h1, tk, rfl, hk⟩ := x.done
  have noA : ∀ b : Addr, b ∉ (cxOf CX P w K mg base N qual scope f cd A outer s H E).ex := fun b z => absurd (show b ∈ ([] : List Addr) from z) (by simp)
  refine ⟨⟨e0.mod, S.kind, rfl, rfl, Nat.le_refl _, fun y z c h1 h2 => ?_, fun y hy => ?_, fun y c _ h => ?_, fun _ => hd, Around.frames_deeper e0.frames, .inr ⟨rfl, rfl⟩, fun b z => absurd z (noA b), e0.bs, e0.bsz, fun b _ _ => noA b, fun b z => absurd z (noA b), e0.funs, e0.frf⟩,
    rfl, e0.bare, Un.kept hk, ⟨_, x.toInCall.ns, fun i y v h1 h2 h3 => ?_⟩, fun y c h => ⟨_, x.cell y c h⟩, e0.hok.fresh (Nat.le_refl _), fun y c h => ?_, fun p hp => absurd (show p ∈ ([] : List (Addr × Obj)) from hp) (by simp), e0.hok.kept hk, ?_⟩
  · exact name_of_addr x.apart (PySem.mem_of_lookup h1) (PySem.mem_of_lookup h2)
  · have hy : scope.names.lookup y = some .cell ∨ scope.names.lookup y = some .free := hy
    rcases hy with hy | hy
    · exact cell_has hy
    · exact absurd rfl (S.nofree _ (PySem.mem_of_lookup hy))
  · exact Nat.le_of_lt (x.above y c (PySem.mem_of_lookup h))
  · have hi : i < vs.length := by
      unfold start at h2
      by_cases hi : i < vs.length
      · exact hi
      · rw [List.getElem?_append_right (by simpa using hi)] at h2
        rw [List.getElem?_replicate] at h2
        split at h2 <;> cases h2
    have ha : vs[i]? = some v := by
      unfold start at h2
      rw [List.getElem?_append_left (by simpa using hi), List.getElem?_map] at h2
      cases e : vs[i]? with
      | none => rw [e] at h2; cases h2
      | some a => rw [e] at h2; cases h2; rfl
    obtain ⟨u, hu, rv⟩ := r.get ha
    have hp : ps[i]? = some y := by
      rw [← S.pre, List.getElem?_take_of_lt (by omega)]; exact h1
    have ndP : ps.Nodup := by rw [← S.pre]; exact S.nd.sublist (List.take_sublist _ _)
    refine ⟨u, rv, ?_⟩
    rcases S.par y (List.mem_of_getElem? hp) with k | k
    · exact .inl ⟨k, bindL_get ndP hp hu k⟩
    · obtain ⟨c, e⟩ := cell_has (n := s.heap.objs.size + 1) k
      refine .inr ⟨.inl k, c, e, ?_⟩
      have q := x.cell y c e
      rw [bindC_get ndP hp hu (by show scope.names.lookup y ≠ _; rw [k]; decide)] at q
      exact q
  · exact e0.hok.fresh (Nat.le_of_lt (x.above y c (PySem.mem_of_lookup h)))
  · unfold start
    show _ = N.length
    rw [List.length_append, List.length_map, List.length_replicate]
    omega
theorem fn_of {CX : CXT} {P : Program} {w : World} {K : PySem.W.Frag} {mg : Str → Option Value} {base : Heap} {k : Nat} {f : Addr} {name qual : Str} {params : Arguments} {body : List Stmt} {scope : Scope} {dV kV doc pm cdv ct oc : Value} {an od : Option Addr}
    {osl : Array (Option Value)} {N ps : List Str} {sp : Sp} (lk : K.lookup f = some ⟨oc, od, .func (PySem.W.fnOf name qual params body scope dV kV doc pm an cdv ct), osl⟩) (hcd : PySem.W.codeIn K cdv qual = true) (S : FnScope N ps scope)
    (len : ∀ vs H Q E, sp vs H Q E → vs.length = ps.length)
    (hbody : ∀ (A : Around) (outer : List Env) (s : Shared) (H : Hp) (vs : List V) (Q : VK) (E : XK), Room k (A.deeper (envOfC qual scope s.heap.objs.size f cdv)) → sp vs H Q E →
      ∃ t, PSs (cxOf CX P w K mg base N qual scope f cdv A outer s H E) body t ∧ t { nx := fun _ H' => Q .non H', rt := Q } (start N vs) H) :
    FnOk P w K mg base CX (k + 1) f (PySem.W.fnOf name qual params body scope dV kV doc pm an cdv ct) ps sp := by
  refine ⟨len, fun A outer s H args us vs Q E hr e0 hb r hsp => ?_⟩
  have hl := len _ _ _ _ hsp
  have KX : K.In s.heap := e0.mod.kin.keeps fun b o e => (e0.bs b o e).1
  have lim : s.heap.NoLimit := e0.mod.nolimit.keeps fun b o e => (e0.bs b o e).1
  have hkind : ∀ y ∈ ps.zip us, scope.names.lookup y.1 = some .local ∨ (scope.names.lookup y.1 = some .cell ∧ ((cellsFrom (s.heap.objs.size + 1) scope.names []).lookup y.1).isSome = true) := fun ⟨n, v⟩ hy => by
    rcases S.par n (List.of_mem_zip hy).1 with q | q
    · exact .inl q
    · exact .inr ⟨q, PySem.W.cellsFrom_some _ _ _ (.inl q)⟩
  refine codeAny_call_function hr.depth (KX _ _ lk) rfl S.co S.gen rfl (PySem.W.codeRec_of KX hcd) (hb _ _ _ _ ?_)
  refine wpAny_newFunctionEnv_cells S.kind hkind fun env he s1 x => ?_
  subst he
  refine ⟨lim.keeps x.toInCall.keep, codeAny_func ?_⟩
  obtain ⟨t, ht, hq⟩ := hbody A outer s H vs Q E (hr.deeper _) hsp
  have I : Inv (cxOf CX P w K mg base N qual scope f cdv A outer s H E) [] (start N vs) H s1 := inv_start S hr.hd e0 hl r x
  refine wpAny_mono (ht [] s1 (start N vs) H _ I hq) (fun fl s' hs => ?_) fun e s' hs => hs
  have fin : ∀ {σ' : St} {H' : Hp} {v : V} {u : Value}, Inv (cxOf CX P w K mg base N qual scope f cdv A outer s H E) [] σ' H' s' → RelV v u → Q v H' → CE outer P w H s Q u s' :=
    fun {σ' H' v u} J rv q => ⟨v, H', J.os, J.bare, J.base, J.hok, rv, q⟩
  cases fl with
  | ret u =>
    obtain ⟨v, σ', H', J, rv, q⟩ := hs
    exact fin J rv q
  | next =>
    obtain ⟨σ', H', J, q⟩ := hs
    exact fin (v := V.non) (u := Value.none) J rfl q
  | brk =>
    obtain ⟨_, _, _, q⟩ := hs
    exact False.elim q
  | cont =>
    obtain ⟨_, _, _, q⟩ := hs
    exact False.elim q
end L2
namespace L2
open PySem PySem.Spec PyProof.Rows
section
variable {X : Cx} {x : Str} {p pos : Pos} {e : Expr} {es : List Expr} {t : TA} {id T : String} {r : List V → Hp → VK → Prop}
def tCB (r : List V → Hp → VK → Prop) (t : TA) : TE := fun σ H Q => t σ H fun vs H1 => r vs H1 Q
theorem pe_callB (hc : CallR X (.builtin id) r) (hg : Gl X x) (hm : X.mg x = none) (hv : bootBuiltins x = some (.builtin id)) (ha : PA X (e :: es) t) (hn : x ≠ "__name__" := by decide) (hdb : (x == ("__debug__" : Str)) = false := by decide)
    (he : starEach (e :: es) X.env = (false, eval e X.env) :: starEach es X.env := by rfl) (hpl : (backTo pos (starEach es X.env)).any (·.1) = false := by rfl) : PE X (.Call (.Name x p) (e :: es) [] pos) (tCB r t) := by
  intro pins s σ H Q I h
  refine wpAny_Call_Name_kw (ld_blt I hg hm hv ?_ hn hdb)
  exact PyProof.Rows.callWith_builtin1 (thn (ha pos pins s σ H _ I h) fun us s1 ⟨vs, H1, I1, r1, q1⟩ => hc pins s1 σ H1 vs us Q I1 r1 q1) he hpl
theorem pe_callTy (hc : CallR X (.type T) r) (hg : Gl X x) (hm : X.mg x = none) (hv : bootBuiltins x = some (.type T)) (ha : PA X (e :: es) t) (hn : x ≠ "__name__" := by decide) (hdb : (x == ("__debug__" : Str)) = false := by decide)
    (he : starEach (e :: es) X.env = (false, eval e X.env) :: starEach es X.env := by rfl) (hpl : (backTo pos (starEach es X.env)).any (·.1) = false := by rfl) : PE X (.Call (.Name x p) (e :: es) [] pos) (tCB r t) := by
  intro pins s σ H Q I h
  refine wpAny_Call_Name_kw (ld_blt I hg hm hv ?_ hn hdb)
  exact PyProof.Rows.callWith_type1 (thn (ha pos pins s σ H _ I h) fun us s1 ⟨vs, H1, I1, r1, q1⟩ => hc pins s1 σ H1 vs us Q I1 r1 q1) he hpl
end
end L2
namespace HT
open PySem PyProof.Rows
section
open PySem.SeqAt
open PySem.AutoSeq1 (wpAny_loadPart')
open PySem.MeetsSeq PySem.MeetsSeq2 PySem.MeetsSeq3
end
section
variable {prog : Program} {w : World} {A : Around} {E : Value → Shared → Prop} {s : Shared}
def sIx (n d : Nat) : Option Int → Nat
  | none => d
  | some v => if v < 0 then (v + (n : Int)).toNat else min v.toNat n
theorem sIx_nat (n d k : Nat) : sIx n d (some (k : Int)) = min k n := by
  show (if (k : Int) < 0 then ((k : Int) + (n : Int)).toNat else min (k : Int).toNat n) = min k n
  rw [if_neg (by omega), Int.toNat_natCast]
end
end HT
namespace L2
open PySem PySem.Spec PyProof.Rows
abbrev TO := St → Hp → (Option Int → Hp → Prop) → Prop
def PO (X : Cx) (e : Option Expr) (t : TO) : Prop :=
  ∀ (pins : List (Addr × Obj)) (s : Shared) (σ : St) (H : Hp) (Q : Option Int → Hp → Prop), Inv X pins σ H s → t σ H Q →
    wpAny (model X.prog X.w) X.A (evalPart e X.env) (fun u s' => ∃ o H', Inv X pins σ H' s' ∧ IsPart u o ∧ Q o H') X.xe s
def tPart (t : TE) : TO := fun σ H Q => t σ H fun x H1 => ∃ i, x = .int i ∧ Q (some i) H1
section
variable {X : Cx} {e : Expr} {te : TE} {lo hi : Option Expr} {tl th : TO} {pos p2 : Pos}
theorem po_some (h : PE X e te) : PO X (some e) (tPart te) := by
  intro pins s σ H Q I hw
  rw [evalPart_some]
  refine thn (h pins s σ H _ I hw) fun u s1 ⟨x, H1, I1, r1, q1⟩ => ?_
  obtain ⟨i, rfl, q⟩ := q1
  obtain ⟨t, rfl⟩ := r1
  exact ⟨some i, H1, I1, .int i t, q⟩
def SlR (X : Cx) (r : V → Option Int → Option Int → Hp → VK → Prop) : Prop :=
  ∀ (pins : List (Addr × Obj)) (s : Shared) (σ : St) (H : Hp) (x : V) (v vl vu : Value) (lo hi : Option Int) (sl : Addr) (Q : VK), Inv X pins σ H s → RelV x v → s.heap.IsSliceOf sl vl vu .none → IsPart vl lo → IsPart vu hi → r x lo hi H Q →
    ∃ T id, typeLookup (.type T) "__getitem__" = pure (some (.builtin id)) ∧ s.TypeIs v T ∧ wpAny (model X.prog X.w) X.A (getItem v (.ref sl)) (EP X pins σ Q) X.xe s
def tSl (r : V → Option Int → Option Int → Hp → VK → Prop) (te : TE) (tl th : TO) : TE := fun σ H Q => te σ H fun x H1 => tl σ H1 fun l H2 => th σ H2 fun u H3 => r x l u H3 Q
theorem pe_slice {r : V → Option Int → Option Int → Hp → VK → Prop} (hr : SlR X r) (he : PE X e te) (hl : PO X lo tl) (hu : PO X hi th) : PE X (.Subscript e (.Slice lo hi none p2) pos) (tSl r te tl th) := by
  intro pins s σ H Q I h
  refine Subscript_ (thn (he pins s σ H _ I h) fun v s1 ⟨x, H1, I1, r1, q1⟩ => ?_)
  refine wpAny_Slice (thn (hl pins s1 σ H1 _ I1 q1) fun vl s2 ⟨l, H2, I2, pl, q2⟩ => thn (hu pins s2 σ H2 _ I2 q2) fun vu s3 ⟨u, H3, I3, pu, q3⟩ => ?_)
  rw [evalPart_none]
  refine wpAny_pure ?_
  have I4 : Inv X pins σ H3 { s3 with heap := s3.heap.push { cls := .type "slice", data := .fields #[vl, vu, .none] } } := I3.kept (t' := s3.toks) fun b ob q => Heap.get?_push_of_some _ q
  obtain ⟨T, id, hT, ht, hg⟩ := hr pins { s3 with heap := s3.heap.push { cls := .type "slice", data := .fields #[vl, vu, .none] } } σ H3 x v vl vu l u s3.heap.objs.size Q I4 r1 (Heap.IsSliceOf.new ..) pl pu q3
  show wpAny (model X.prog X.w) X.A (subscriptTail e (.Slice lo hi none p2) v (.ref s3.heap.objs.size)) (EP X pins σ Q) X.xe { s3 with heap := s3.heap.push { cls := .type "slice", data := .fields #[vl, vu, .none] } }
  exact tail_any (ops := [.ref s3.heap.objs.size, v]) ht hT hg (by with_unfolding_all rfl)
def cutV (xs : List V) (lo hi : Option Int) : List V := (xs.drop (HT.sIx xs.length 0 lo)).take (HT.sIx xs.length xs.length hi - HT.sIx xs.length 0 lo)
theorem cutV_length (xs : List V) (lo hi : Option Int) : (cutV xs lo hi).length ≤ xs.length := by
  unfold cutV
  rw [List.length_take, List.length_drop]
  omega
end
end L2
namespace L2
open PySem PySem.Spec PyProof.Rows
def ixN (n : Nat) (i : Int) : Option Nat := if 0 ≤ i then (if i < n then some i.toNat else none) else if -(n : Int) ≤ i then some (i + n).toNat else none
def atI {α : Type} (xs : List α) (i : Int) : Option α := (ixN xs.length i).bind fun j => xs[j]?
theorem ixN_seq {n : Nat} {i : Int} {j : Nat} (h : ixN n i = some j) : seqIndex? i n = some j ∧ j < n ∧ -(n : Int) ≤ i ∧ i < n := by
  unfold ixN at h
  by_cases h0 : 0 ≤ i
  · rw [if_pos h0] at h
    by_cases h1 : i < n
    · rw [if_pos h1] at h
      have e : i.toNat = j := Option.some.inj h
      exact ⟨by rw [seqIndex_of h0 h1, e], by omega, by omega, h1⟩
    · rw [if_neg h1] at h; cases h
  · rw [if_neg h0] at h
    by_cases h1 : -(n : Int) ≤ i
    · rw [if_pos h1] at h
      have e : (i + n).toNat = j := Option.some.inj h
      exact ⟨by rw [seqIndex_neg (by omega) h1, e], by omega, h1, by omega⟩
    · rw [if_neg h1] at h; cases h
theorem atI_get {α : Type} {xs : List α} {i : Int} {v : α} (h : atI xs i = some v) : ∃ j, seqIndex? i xs.length = some j ∧ xs[j]? = some v ∧ j < xs.length ∧ -(xs.length : Int) ≤ i ∧ i < xs.length := by
  unfold atI at h
  cases e : ixN xs.length i with
  | none => rw [e] at h; cases h
  | some j =>
    rw [e] at h
    obtain ⟨h1, h2, h3, h4⟩ := ixN_seq e
    exact ⟨j, h1, h, h2, h3, h4⟩
theorem atI_nat {α : Type} {xs : List α} {j : Nat} {v : α} (h : xs[j]? = some v) : atI xs (j : Int) = some v := by
  have hj : j < xs.length := (List.getElem?_eq_some_iff.mp h).1
  have e : ixN xs.length (j : Int) = some j := by
    unfold ixN
    rw [if_pos (by omega), if_pos (by omega)]; simp
  unfold atI; rw [e]; exact h
def PlainIx (b : Expr) : Prop := ∀ o i, subscripted b false o i = operate [o, i] (getItem o i)
def IxR (X : Cx) (r : R2) : Prop :=
  ∀ (value slice : Expr) (pins : List (Addr × Obj)) (s : Shared) (σ : St) (H : Hp) (x y : V) (v u : Value) (Q : VK), Inv X pins σ H s → RelV x v → RelV y u → r x y H Q →
    subscripted slice false v u = operate [v, u] (getItem v u) → wpAny (model X.prog X.w) X.A (subscriptTail value slice v u) (EP X pins σ Q) X.xe s
def MtR (X : Cx) (id : String) (r : V → List V → Hp → VK → Prop) : Prop :=
  ∀ (pins : List (Addr × Obj)) (s : Shared) (σ : St) (H : Hp) (x : V) (xs : List V) (v : Value) (us : List Value) (Q : VK), Inv X pins σ H s → RelV x v → Vals xs us → r x xs H Q →
    wpAny (model X.prog X.w) X.A (call (.builtin id) (v :: us)) (EP X pins σ Q) X.xe s
section
variable {X : Cx} {a b : Expr} {ta tb : TE} {pos : Pos}
theorem pe_ix {r : R2} (hr : IxR X r) (ha : PE X a ta) (hb : PE X b tb) (hs : PlainIx b) : PE X (.Subscript a b pos) (tOp r ta tb) := by
  intro pins s σ H Q I h
  exact Subscript_ (binT ha hb I h fun v u s2 x y H2 I2 rx ry q => hr a b pins s2 σ H2 x y v u Q I2 rx ry q (hs _ _))
def rIxL (K : PySem.W.Frag) : R2 := fun x y H Q => ∃ p xs i v, x = .ref p ∧ y = .int i ∧ SqL K H p xs ∧ atI xs i = some v ∧ Q v H
def rIxT (K : PySem.W.Frag) : R2 := fun x y H Q => ∃ p xs i v, x = .ref p ∧ y = .int i ∧ SqT K H p xs ∧ atI xs i = some v ∧ Q v H
theorem ix_list : IxR X (rIxL X.K) := by
  intro value slice pins s σ H x y v u Q I rx ry h hs
  obtain ⟨p, xs, i, z, rfl, rfl, hq, he, q⟩ := h
  cases rx
  obtain ⟨t, rfl⟩ := ry
  obtain ⟨its, r, pl, hz⟩ := I.list hq
  obtain ⟨j, h1, h2, h3, h4, h5⟩ := atI_get he
  obtain ⟨w, ew, rw'⟩ := r.get h2
  have hl := r.length
  have hn := line63
  have fin : EP X pins σ Q w s := ⟨z, H, I, rw', q⟩
  by_cases h0 : 0 ≤ i
  · have hj : i.toNat = j := by
      rw [seqIndex_of h0 h5] at h1
      exact Option.some.inj h1
    exact item_listR pl.isList h0 (by omega) (by rw [hj]; simpa using ew) fin hs
  · have hj : (i + (its.toArray.size : Int)).toNat = j := by
      rw [seqIndex_neg (by omega) h4] at h1
      rw [List.size_toArray, ← hl]
      exact Option.some.inj h1
    exact subscriptTail_builtinR (x := w) pl.isList.typeIs slot_list_getitem.lookup
      (wpAny_getItem_list_neg (Q := fun r s' => r = w ∧ EP X pins σ Q r s') pl.isList (by omega) (by rw [List.size_toArray] <;> omega) (by omega) (by rw [hj]; simpa using ew) ⟨rfl, fin⟩) hs
theorem ix_tup : IxR X (rIxT X.K) := by
  intro value slice pins s σ H x y v u Q I rx ry h hs
  obtain ⟨p, xs, i, z, rfl, rfl, hq, he, q⟩ := h
  cases rx
  obtain ⟨t, rfl⟩ := ry
  obtain ⟨its, r, pl, hz⟩ := I.tuple hq
  obtain ⟨j, h1, h2, h3, h4, h5⟩ := atI_get he
  obtain ⟨w, ew, rw'⟩ := r.get h2
  have hl := r.length
  have hn := line63
  have fin : EP X pins σ Q w s := ⟨z, H, I, rw', q⟩
  exact subscriptTail_builtinR (x := w) pl.typeIs slot_tuple_getitem.lookup
    (getItem_tuple (j := j) (Q := fun r s' => r = w ∧ EP X pins σ Q r s') pl (by omega) (by omega) (by rw [List.size_toArray, ← hl]; exact h1) (by simpa using ew) ⟨rfl, fin⟩) hs
theorem mapSeq_set (its : List Value) (n j : Nat) (u : Value) : Obj.mapSeq (·.setIfInBounds j u) { cls := .type "list", data := .seq its.toArray n } = { cls := .type "list", data := .seq (its.set j u).toArray n } := by
  simp [Obj.mapSeq]
theorem Inv.lst {pins : List (Addr × Obj)} {σ : St} {H : Hp} {s : Shared} {p : Addr} {xs : List V} (I : Inv X pins σ H s) (h : H p = some (.lst xs)) :
    ∃ (its : List Value) (n : Nat), Vals xs its ∧ s.heap.get? p = some { cls := .type "list", data := .seq its.toArray n } ∧ xs.length ≤ sizeLine := by
  obtain ⟨z, its, n, r, e⟩ := I.hok p _ h
  exact ⟨its, n, r, e, z⟩
theorem Inv.lstUpd {pins : List (Addr × Obj)} {σ : St} {H : Hp} {s : Shared} {p : Addr} {xs ys : List V} {its its' : List Value} {n n' : Nat} {f : Obj → Obj} (I : Inv X pins σ H s) (h : H p = some (.lst xs))
    (ho : s.heap.get? p = some { cls := .type "list", data := .seq its.toArray n }) (hf : f { cls := .type "list", data := .seq its.toArray n } = { cls := .type "list", data := .seq its'.toArray n' }) (r : Vals ys its') (hz : ys.length ≤ sizeLine) (t : Nat) :
    Inv X pins σ (upd H p (.lst ys)) { s with heap := s.heap.update p f, toks := t } := by
  have e : (s.heap.update p f).get? p = some { cls := .type "list", data := .seq its'.toArray n' } := by
    rw [Heap.get?_update_self f ho (by rw [hf] <;> rfl), hf]
  refine I.write (x := p) (e := p) (by rw [h]; trivial) (.inl rfl) (fun b u hb q => (Heap.get?_update_other _ _ (Ne.symm hb)).trans q) ⟨_, e⟩ ?_
  exact ⟨hz, its', n', r, e⟩
def rSetL : V → V → V → Hp → (Hp → Prop) → Prop := fun o i v H Q => ∃ p xs k j, o = .ref p ∧ i = .int k ∧ H p = some (.lst xs) ∧ ixN xs.length k = some j ∧ Q (upd H p (.lst (xs.set j v)))
theorem set_list : PSet X rSetL := by
  intro pins s σ H o i v ov iv u Q I ro ri rv h
  obtain ⟨p, xs, k, j, rfl, rfl, hp, hj, q⟩ := h
  cases ro
  obtain ⟨t, rfl⟩ := ri
  obtain ⟨its, n, r, ho, hz⟩ := I.lst hp
  obtain ⟨h1, h2, h3, h4⟩ := ixN_seq hj
  have hl := r.length
  have hn := line63
  have I' : Inv X pins σ (upd H p (.lst (xs.set j v))) { s with heap := s.heap.update p (Obj.mapSeq (·.setIfInBounds j u)) } :=
    I.lstUpd hp ho (mapSeq_set its n j u) (r.set rv j) (by rw [List.length_set]; exact hz) s.toks
  by_cases h0 : 0 ≤ k
  · have hk : k.toNat = j := by
      rw [seqIndex_of h0 h4] at h1
      exact Option.some.inj h1
    exact PySem.W.ki_setAt ho h0 (by omega) (by rw [List.size_toArray, ← hl]; exact h4) (by rw [hk]; exact ⟨_, I', q⟩)
  · have hk : (k + (its.toArray.size : Int)).toNat = j := by
      rw [seqIndex_neg (by omega) h3] at h1
      rw [List.size_toArray, ← hl]
      exact Option.some.inj h1
    exact PySem.W.ki_setBack ho (by omega) (by rw [List.size_toArray, ← hl]; exact h3) (by omega) (by rw [hk]; exact ⟨_, I', q⟩)
theorem slice_bounds (lo hi : Option Int) (n : Nat) : (sliceBounds lo hi none n).1 = ((HT.sIx n 0 lo : Nat) : Int) ∧ (sliceBounds lo hi none n).2.1 = ((HT.sIx n n hi : Nat) : Int) ∧ (sliceBounds lo hi none n).2.2 = 1 := by
  refine ⟨?_, ?_, rfl⟩
  · cases lo with
    | none => simp [sliceBounds, HT.sIx]
    | some i =>
      simp only [sliceBounds, HT.sIx, Option.getD_none, show (1 : Int) > 0 by decide, if_true]
      by_cases h : i < 0
      · simp only [h, if_true] <;> omega
      · simp only [h, if_false] <;> omega
  · cases hi with
    | none => simp [sliceBounds, HT.sIx]
    | some i =>
      simp only [sliceBounds, HT.sIx, Option.getD_none, show (1 : Int) > 0 by decide, if_true]
      by_cases h : i < 0
      · simp only [h, if_true] <;> omega
      · simp only [h, if_false] <;> omega
theorem slicePick_cut (its : List Value) (lo hi : Option Int) : slicePick its.toArray lo hi none = ((its.drop (HT.sIx its.length 0 lo)).take (HT.sIx its.length its.length hi - HT.sIx its.length 0 lo)).toArray := by
  obtain ⟨h1, h2, h3⟩ := slice_bounds lo hi its.toArray.size
  unfold slicePick
  rw [h1, h2, h3]
  simp only [sliceRange_one, pick_run, List.size_toArray] <;> rfl
def rSlL (K : PySem.W.Frag) : V → Option Int → Option Int → Hp → VK → Prop := fun x lo hi H Q => ∃ a xs, x = .ref a ∧ SqL K H a xs ∧ ∀ p, H p = none → Q (.ref p) (upd H p (.lst (cutV xs lo hi)))
theorem sl_list : SlR X (rSlL X.K) := by
  intro pins s σ H x v vl vu lo hi sl Q I rx hs pl pu h
  obtain ⟨a, xs, rfl, hx, q⟩ := h
  cases rx
  obtain ⟨its, r, ht, hz⟩ := I.list hx
  have hlen := r.length
  refine ⟨"list", _, slot_list_getitem.lookup, ht.isList.typeIs, ?_⟩
  refine wpAny_getItem_list_slice ht.isList hs pl pu .none (by simp) ?_ (by rw [List.size_toArray] <;> omega)
  rw [slicePick_cut, ← hlen]
  refine ⟨.ref s.heap.objs.size, _, I.laid (t' := s.toks) (o := .lst (cutV xs lo hi)) (fun b ob q => Heap.get?_push_of_some _ q) (Nat.le_refl _) ?_, rfl, q _ (I.hok.fresh (Nat.le_refl _))⟩
  exact ⟨Nat.le_trans (cutV_length xs lo hi) hz, _, 0, (r.drop (HT.sIx xs.length 0 lo)).take (HT.sIx xs.length xs.length hi - HT.sIx xs.length 0 lo), Heap.get?_push_size _ rfl⟩
theorem call_len_seq : CallR X (.builtin "len") (fun xs H Q => ∃ p ys, xs = [.ref p] ∧ (SqL X.K H p ys ∨ SqT X.K H p ys) ∧ Q (.int ys.length) H) := by
  intro pins s σ H xs us Q I r h
  obtain ⟨p, ys, rfl, hq, q⟩ := h
  obtain ⟨u, rfl, rx⟩ := vals1 r
  cases rx
  have hn := line63
  rcases hq with hq | hq
  · obtain ⟨its, r', pl, hz⟩ := I.list hq
    have hlen := r'.length
    exact Calls.call_len_list pl.isList (by simp only [List.size_toArray] <;> omega) ⟨.int ys.length, H, I.tok _, ⟨s.toks + 1, by rw [List.size_toArray, hlen]⟩, q⟩
  · obtain ⟨its, r', pl, hz⟩ := I.tuple hq
    have hlen := r'.length
    exact len_tuple pl (by simp only [List.size_toArray] <;> omega) ⟨.int ys.length, H, I.tok _, ⟨s.toks + 1, by rw [List.size_toArray, hlen]⟩, q⟩
theorem call_list_of : CallR X (.type "list") (fun xs H Q => ∃ p ys, xs = [.ref p] ∧ (SqL X.K H p ys ∨ SqT X.K H p ys) ∧ ∀ l, H l = none → Q (.ref l) (upd H l (.lst ys))) := by
  intro pins s σ H xs us Q I r h
  obtain ⟨p, ys, rfl, hq, q⟩ := h
  obtain ⟨u, rfl, rx⟩ := vals1 r
  cases rx
  have fin : ∀ (its : List Value), Vals ys its → ys.length ≤ sizeLine → ∀ (h' : Heap) (c' : Nat), (∀ b o', s.heap.get? b = some o' → h'.get? b = some o') →
      h'.get? s.heap.objs.size = some { cls := .type "list", dict := none, data := .seq its.toArray c', slots := #[] } → EP X pins σ Q (.ref s.heap.objs.size) { s with heap := h' } := fun its r' hz h' c' kp e =>
    ⟨.ref s.heap.objs.size, _, I.laid (t' := s.toks) kp (Nat.le_refl _) (show ObjOk X.prog X.w _ h' _ (.lst ys) from ⟨hz, its, c', r', e⟩), rfl, q _ (I.hok.fresh (Nat.le_refl _))⟩
  rcases hq with hq | hq
  · obtain ⟨its, r', pl, hz⟩ := I.list hq
    have hlen := r'.length
    obtain ⟨o, ho, hc, n, hd⟩ := pl.isList
    exact call_list_seq p (.inl rfl) ho hc hd (fun h' c' kp e => fin its r' hz h' c' kp e) (by simp only [List.size_toArray] <;> omega)
  · obtain ⟨its, r', pl, hz⟩ := I.tuple hq
    have hlen := r'.length
    obtain ⟨o, ho, hc, n, hd⟩ := pl
    exact call_list_seq p (.inr rfl) ho hc hd (fun h' c' kp e => fin its r' hz h' c' kp e) (by simp only [List.size_toArray] <;> omega)
def tyV (K : PySem.W.Frag) (T : String) (x : V) (H : Hp) : Prop := match x with
  | .str _ => T = "str"
  | .int _ => T = "int"
  | .ref p => (T = "list" ∧ ∃ xs, SqL K H p xs) ∨ (T = "tuple" ∧ ∃ o, K.lookup p = some o ∧ o.cls = .type "tuple" ∧ o.dict = none) ∨
      (T = "dict" ∧ ((∃ kvs, H p = some (.dK kvs)) ∨ ∃ kvs, H p = some (.dT kvs))) ∨ (T = "set" ∧ ∃ S n, H p = some (.set S n))
  | _ => False
theorem tyV_is {pins : List (Addr × Obj)} {σ : St} {H : Hp} {s : Shared} {T : String} {x : V} {v : Value} (I : Inv X pins σ H s) (r : RelV x v) (ty : tyV X.K T x H) :
    s.TypeIs v T ∧ ∀ a, v = .ref a → ∃ ob, s.heap.get? a = some ob ∧ ob.dict = none := by
  cases x with
  | str z =>
    obtain ⟨t, rfl⟩ := r
    cases (show T = "str" from ty)
    exact ⟨typeIs_str s z t, fun _ e => nomatch e⟩
  | int i =>
    obtain ⟨t, rfl⟩ := r
    cases (show T = "int" from ty)
    exact ⟨typeIs_int s i t, fun _ e => nomatch e⟩
  | ref p =>
    cases r
    rcases ty with ⟨rfl, xs, hq⟩ | ⟨rfl, o, hk, hc, hd⟩ | ⟨rfl, hk⟩ | ⟨rfl, S, n, hk⟩
    · obtain ⟨its, _, pl, _⟩ := I.list hq
      refine ⟨pl.isList.typeIs, fun a e => ?_⟩
      cases e
      obtain ⟨o, n, e, c, hd, _⟩ := pl
      exact ⟨o, e, hd⟩
    · refine ⟨⟨o, I.kIn p o hk, hc⟩, fun a e => ?_⟩
      cases e
      exact ⟨o, I.kIn _ o hk, hd⟩
    · have z : ∃ o, s.heap.get? p = some o ∧ o.ExactDict := by
        rcases hk with ⟨kvs, hk⟩ | ⟨kvs, hk⟩
        · obtain ⟨_, _, _, _, o, _, _, e, ex, _⟩ := I.hok p _ hk
          exact ⟨o, e, ex⟩
        · obtain ⟨_, _, _, _, o, _, _, e, ex, _⟩ := I.hok p _ hk
          exact ⟨o, e, ex⟩
      obtain ⟨o, e, ex⟩ := z
      refine ⟨⟨o, e, ex.1⟩, fun a e2 => ?_⟩
      cases e2
      exact ⟨o, e, ex.2.1⟩
    · obtain ⟨o, _, _, _, e, ex, _⟩ := I.hok p _ hk
      refine ⟨⟨o, e, ex.1⟩, fun a e2 => ?_⟩
      cases e2
      exact ⟨o, e, ex.2.1⟩
  | _ => exact False.elim ty
def tBM (K : PySem.W.Frag) (T : String) (r : V → List V → Hp → VK → Prop) (to : TE) (t : TA) : TE := fun σ H Q => to σ H fun x H1 => tyV K T x H1 ∧ t σ H1 fun xs H2 => r x xs H2 Q
variable {o e : Expr} {es : List Expr} {to : TE} {t : TA} {name : Str} {apos cpos : Pos} {T id : String} {r : V → List V → Hp → VK → Prop}
theorem pe_bm (pa : PlainAttrs T) (slot : Slot T name id) (hty : typeOf (.builtin id) = pure (.type "method_descriptor")) (hm : MtR X id r) (ho : PE X o to) (ha : PA X (e :: es) t)
    (hbase : attributeBase o name X.env (eval o X.env) = eval o X.env := by rfl)
    (hfew : ((backTo cpos (starEach (e :: es) X.env)).all (fun x => !x.1) && (backToKw cpos (keywordEach [] X.env)).all (fun x => x.1.isSome)
      && decide ((e :: es).length + ([] : List Keyword).length + (if ([] : List Keyword).isEmpty then 0 else 1) < 30)) = true := by rfl)
    (hline : (apos.endLine == cpos.line) = true := by rfl) (hs : starEach (e :: es) X.env = (false, eval e X.env) :: starEach es X.env := by rfl) (hplain : (backTo cpos (starEach es X.env)).any (·.1) = false := by rfl) :
    PE X (.Call (.Attribute o name apos) (e :: es) [] cpos) (tBM X.K T r to t) := by
  intro pins s σ H Q I h
  refine wpAny_Call_method_late hbase hfew hline rfl (thn (ho pins s σ H _ I h) fun v s1 ⟨x, H1, I1, r1, ty, q1⟩ => ?_)
  obtain ⟨h1, h2⟩ := tyV_is I1 r1 ty
  refine ⟨T, id, pa, slot, hty, h1, h2, ?_⟩
  have hA := ha cpos pins s1 σ H1 _ I1 q1
  rw [hs] at hA ⊢
  refine Calls.callWith_builtin (by show (false || (backTo cpos (starEach es X.env)).any (·.1)) = false; rw [hplain] <;> rfl) (Calls.evalArgs_plain ?_)
  exact thn hA fun us s2 ⟨vs, H2, I2, r2, q2⟩ => hm pins s2 σ H2 x vs v us Q I2 r1 r2 q2
/- xs.append(e), list.index on a module's tuple .. are MtR facts of 06m -/
end
end L2
namespace L2
open PySem PySem.Spec PyProof.Rows
def MtM (X : Cx) (id : String) (r : V → List V → Hp → VK → Prop) : Prop :=
  ∀ (pins : List (Addr × Obj)) (s : Shared) (σ : St) (H : Hp) (x : V) (xs : List V) (v : Value) (us : List Value) (Q : VK), Inv X pins σ H s → RelV x v → Vals xs us → r x xs H Q →
    wpAny (model X.prog X.w) X.A (call (.builtin id) (v :: us)) (EP X pins σ Q) X.xe s
theorem Vals.one : ∀ {x : V} {us : List Value}, Vals [x] us → ∃ u, us = [u] ∧ RelV x u
  | _, _, .cons r .nil => ⟨_, rfl, r⟩
theorem Vals.rep {xs : List V} {us : List Value} (h : Vals xs us) : ∀ k : Nat, Vals (List.replicate k xs).flatten (List.replicate k us).flatten
  | 0 => .nil
  | k + 1 => by
    rw [List.replicate_succ, List.replicate_succ, List.flatten_cons, List.flatten_cons]
    exact Vals.append h (Vals.rep h k)
theorem foldl_rep (its : List Value) : ∀ (k : Nat) (acc : List Value),
    List.foldl (fun x1 x2 => x1 ++ x2) acc.toArray (List.replicate k its.toArray) = (acc ++ (List.replicate k its).flatten).toArray
  | 0, acc => by simp
  | k + 1, acc => by
    have e : acc.toArray ++ its.toArray = (acc ++ its).toArray := by simp
    have e2 : (acc ++ its) ++ (List.replicate k its).flatten = acc ++ (List.replicate (k + 1) its).flatten := by
      rw [List.replicate_succ, List.flatten_cons, List.append_assoc]
    rw [← e2, ← foldl_rep its k (acc ++ its), ← e, List.replicate_succ, List.foldl_cons]
section
variable {X : Cx} {pins : List (Addr × Obj)} {σ : St} {H : Hp} {s : Shared} {l b : Addr} {xs ys zs : List V}
theorem Inv.lset {its its' : List Value} {n : Nat} {f : Array Value → Array Value} {t' : Nat} (I : Inv X pins σ H s) (hH : H l = some (.lst xs))
    (e : s.heap.get? l = some { cls := .type "list", data := .seq its.toArray n }) (hf : f its.toArray = its'.toArray) (hv : Vals ys its') (hz : ys.length ≤ sizeLine) :
    Inv X pins σ (upd H l (.lst ys)) { s with heap := s.heap.update l (Obj.mapSeq f), toks := t' } := by
  have q := PySem.IsL.update e f
  rw [hf] at q
  refine I.write (x := l) (e := l) (by rw [hH]; exact trivial) (.inl rfl) (fun b' u hb hu => (Heap.get?_update_other s.heap (Obj.mapSeq f) (Ne.symm hb)).trans hu) ⟨_, q⟩ ?_
  exact ⟨hz, its', _, hv, q⟩
theorem Inv.lnew {its : List Value} {t' : Nat} (I : Inv X pins σ H s) (hv : Vals ys its) (hz : ys.length ≤ sizeLine) :
    Inv X pins σ (upd H s.heap.objs.size (.lst ys)) { s with heap := s.heap.push { cls := .type "list", data := .seq its.toArray }, toks := t' } :=
  I.laid (fun _ _ q => Heap.get?_push_of_some _ q) (Nat.le_refl _) ⟨hz, its, 0, hv, Heap.get?_push_size _ rfl⟩
theorem Inv.fresh (I : Inv X pins σ H s) : H s.heap.objs.size = none := I.hok.fresh (Nat.le_refl _)
theorem Inv.lstM (I : Inv X pins σ H s) (hH : H l = some (.lst xs)) : xs.length ≤ sizeLine ∧ ∃ (its : List Value) (n : Nat), Vals xs its ∧ xs.length = its.length ∧ s.heap.get? l = some { cls := .type "list", data := .seq its.toArray n } := by
  obtain ⟨z, its, n, r, e⟩ := I.hok l _ hH
  exact ⟨z, its, n, r, r.length, e⟩
theorem notLongL {n : Nat} (h : n ≤ sizeLine) : Builtin.List.listTooLong n = false := by
  unfold Builtin.List.listTooLong
  exact decide_eq_false (by omega)
end
section
variable {X : Cx}
def rAppend : V → List V → Hp → VK → Prop := fun x vs H Q => ∃ l xs y, x = .ref l ∧ vs = [y] ∧ H l = some (.lst xs) ∧ xs.length < sizeLine ∧ Q .non (upd H l (.lst (xs ++ [y])))
theorem mt_append : MtM X "list.append" rAppend := by
  intro pins s σ H x vs v us Q I rx rv h
  obtain ⟨l, xs, y, rfl, rfl, hH, hz, q⟩ := h
  cases rx
  obtain ⟨u, rfl, ru⟩ := rv.one
  obtain ⟨z, its, n, r, hl, e⟩ := I.lstM hH
  refine call_meets F.slot_list_append ⟨_, e, rfl⟩ F.entry_list_append (F.args_list_append_2 _ _) (PySem.list_append l its.toArray n u (by rw [List.size_toArray]; omega)) ⟨e, ?_⟩
  refine ⟨.non, _, I.lset (its' := its ++ [u]) hH e (by simp) (r.append (.cons ru .nil)) ?_, rfl, q⟩
  rw [List.length_append, List.length_singleton]
  omega
def rExtend : V → List V → Hp → VK → Prop := fun x vs H Q => ∃ l b xs zs, x = .ref l ∧ vs = [.ref b] ∧ H l = some (.lst xs) ∧ H b = some (.lst zs) ∧ xs.length + zs.length ≤ sizeLine ∧ Q .non (upd H l (.lst (xs ++ zs)))
theorem mt_extend : MtM X "list.extend" rExtend := by
  intro pins s σ H x vs v us Q I rx rv h
  obtain ⟨l, b, xs, zs, rfl, rfl, hH, hB, hz, q⟩ := h
  cases rx
  obtain ⟨u, rfl, ru⟩ := rv.one
  cases ru
  obtain ⟨z, its, n, r, hl, e⟩ := I.lstM hH
  obtain ⟨z2, its2, n2, r2, hl2, e2⟩ := I.lstM hB
  have hsz : its.toArray.size + its2.toArray.size ≤ sizeLine := by rw [List.size_toArray, List.size_toArray]; omega
  have hlong : ¬ (!its.toArray.isEmpty && Builtin.List.listTooLong (its.toArray.size + its2.toArray.size)) = true := by
    rw [notLongL hsz, Bool.and_false]
    exact Bool.false_ne_true
  refine call_meets F.slot_list_extend ⟨_, e, rfl⟩ F.entry_list_extend (F.args_list_extend_2 _ _)
    (AutoSeq1.list_extend_list_list_0 l its.toArray n b its2.toArray n2 hlong (by rw [List.size_toArray]; omega) (by omega)) ⟨e, e2, ?_⟩
  refine ⟨.non, _, I.lset (its' := its ++ its2) hH e (by simp) (r.append r2) ?_, rfl, q⟩
  rw [List.length_append]
  omega
def rCat : R2 := fun x y H Q => ∃ l b xs zs, x = .ref l ∧ y = .ref b ∧ H l = some (.lst xs) ∧ H b = some (.lst zs) ∧ xs.length + zs.length ≤ sizeLine ∧ ∀ p, H p = none → Q (.ref p) (upd H p (.lst (xs ++ zs)))
theorem op_cat : OpR X (binaryOp .Add) rCat := by
  intro pins s σ H x y v u Q I rx ry h
  obtain ⟨l, b, xs, zs, rfl, rfl, hH, hB, hz, q⟩ := h
  cases rx
  cases ry
  obtain ⟨z, its, n, r, hl, e⟩ := I.lstM hH
  obtain ⟨z2, its2, n2, r2, hl2, e2⟩ := I.lstM hB
  refine PySem.P.add_list e e2 ?_ (by rw [List.size_toArray, List.size_toArray]; omega)
  have ea : its.toArray ++ its2.toArray = (its ++ its2).toArray := by simp
  rw [ea]
  exact ⟨.ref _, _, I.lnew (t' := s.toks) (r.append r2) (by rw [List.length_append]; omega), rfl, q _ I.fresh⟩
def rRep : R2 := fun x y H Q => ∃ l k xs, x = .ref l ∧ y = .int k ∧ H l = some (.lst xs) ∧ -(2 ^ 63) ≤ k ∧ k < 2 ^ 63 ∧ xs.length * k.toNat ≤ sizeLine ∧
  ∀ p, H p = none → Q (.ref p) (upd H p (.lst (List.replicate k.toNat xs).flatten))
theorem len_rep {α : Type} (xs : List α) (k : Nat) : (List.replicate k xs).flatten.length = k * xs.length := by
  induction k with
  | zero => simp
  | succ k ih => rw [List.replicate_succ, List.flatten_cons, List.length_append, ih, Nat.succ_mul, Nat.add_comm]
theorem op_rep : OpR X (binaryOp .Mult) rRep := by
  intro pins s σ H x y v u Q I rx ry h
  obtain ⟨l, k, xs, rfl, rfl, hH, h1, h2, hz, q⟩ := h
  cases rx
  obtain ⟨t, rfl⟩ := ry
  obtain ⟨z, its, n, r, hl, e⟩ := I.lstM hH
  have hlen : its.toArray.size * k.toNat ≤ sizeLine := by rw [List.size_toArray, ← hl]; exact hz
  have hcap : ¬ its.toArray.size * k.toNat > (2 ^ 63 - 1) / 8 := by
    have : (sizeLine : Nat) ≤ (2 ^ 63 - 1) / 8 := by decide
    omega
  have hfit : ¬ (!Builtin.List.listFitsIndex k) = true := by
    rw [fitsIndex_both h1 h2]
    exact Bool.false_ne_true
  have hlong : ¬ Builtin.List.listTooLong (its.toArray.size * k.toNat) = true := by
    rw [notLongL hlen]
    exact Bool.false_ne_true
  have hnew : List.foldl (fun x1 x2 => x1 ++ x2) #[] (List.replicate (if its.toArray.isEmpty = true then 0 else k.toNat) its.toArray) = (List.replicate k.toNat its).flatten.toArray := by
    have f0 : ∀ m : Nat, List.foldl (fun x1 x2 => x1 ++ x2) #[] (List.replicate m its.toArray) = (List.replicate m its).flatten.toArray := fun m => by
      have := foldl_rep its m []
      rw [List.nil_append] at this
      exact this
    rw [f0]
    cases its with
    | nil => simp
    | cons a r' => rw [if_neg (by simp)]
  refine wpAny_binaryOp_repeat_ref (T := "list") (U := "int") (by decide) ⟨_, e, rfl⟩ (fun s' => typeIs_int s' k t) noFill_list_mul F.fills_int_mul F.slot_int_rmul repeat_list F.slot_int_index.lookup
    (call_meets F.slot_int_rmul (typeIs_int s k t) F.entry_int_rmul (F.args_int_rmul_2 _ _) (int___rmul___int_list k t l its.toArray n)
      ⟨e, rfl, ⟨_, e, rfl⟩, call_meets F.slot_list_mul ⟨_, e, rfl⟩ F.entry_list_mul (F.args_list_mul_2 _ _) (AutoListH.list___mul___list_int_3 l its.toArray n k t hfit hcap hlong) ⟨e, ?_⟩⟩)
  rw [hnew]
  exact ⟨.ref _, _, I.lnew (t' := s.toks) (r.rep k.toNat) (by rw [len_rep, Nat.mul_comm]; exact hz), rfl, q _ I.fresh⟩
end
section
variable {prog : Program} {w : World} {A : Around} {E : Value → Shared → Prop} {s : Shared}
set_option maxRecDepth 100000 in
end
section
variable {X : Cx}
end
end L2
namespace L2
open PySem PySem.Spec PyProof.Rows
theorem Vals.ints : ∀ {ns : List Int} {us : List Value}, Vals (ns.map V.int) us → IntsAre us ns
  | [], us, h => by
    rw [List.map_nil] at h
    cases h
    exact IntsAre.nil
  | n :: ns, us, h => by
    rw [List.map_cons] at h
    cases h with
    | cons r t =>
      obtain ⟨k, rfl⟩ := r
      exact IntsAre.cons n k (Vals.ints t)
theorem Vals.bls : ∀ {bs : List Bool} {us : List Value}, Vals (bs.map V.bl) us → us = bs.map Value.bool
  | [], us, h => by
    rw [List.map_nil] at h
    cases h
    rfl
  | b :: bs, us, h => by
    rw [List.map_cons] at h
    cases h with
    | cons r t =>
      cases r
      rw [Vals.bls t, List.map_cons]
theorem Vals.ref1 {a : Addr} {us : List Value} (r : Vals [V.ref a] us) : us = [Value.ref a] := by
  cases r with
  | cons r t =>
    cases t
    cases r
    rfl
section
variable {prog : Program} {w : World} {A : Around} {E : Value → Shared → Prop} {s : Shared} {l : Addr} {its : List Value} {ns : List Int} {Q : Value → Shared → Prop}
theorem sum_raw (hh : A.handled = none) (hl : s.heap.IsList l its.toArray) (hi : IntsAre its ns)
    (h : ∀ h' tk t', (∀ b o, s.heap.get? b = some o → h'.get? b = some o) → Q (.int ns.sum t') { s with heap := h', toks := tk }) : wpAny (model prog w) A (call (.builtin "sum") [.ref l]) Q E s := by
  obtain ⟨xs, e⟩ := hi.allInts.items
  have hn : numsOf (intItems xs).toList = ns := by rw [← e]; exact hi.numsOf
  rw [nums_intItems] at hn
  rw [e] at hl
  refine PySem.sum_intListG hh hl fun h' tk t' hk => ?_
  have := h h' tk t' hk
  rw [preSum_eq, List.take_of_length_le (by simp), hn]; exact this
end
section
variable {X : Cx}
def rSum (K : PySem.W.Frag) : List V → Hp → VK → Prop := fun vs H Q => ∃ (a : Addr) (ns : List Int), vs = [V.ref a] ∧ SqL K H a (ns.map V.int) ∧ Q (.int ns.sum) H
theorem cr_sum (hc : X.calm = true) : CallR X (.builtin "sum") (rSum X.K) := by
  intro pins s σ H vs us Q I r h
  obtain ⟨a, ns, rfl, hs, q⟩ := h
  obtain ⟨its, rv, hl, _⟩ := I.list hs
  rw [Vals.ref1 r]
  exact sum_raw (I.ok.hd hc) hl.isList rv.ints fun h' tk t' hk => ⟨.int _, H, I.kept hk, ⟨_, rfl⟩, q⟩
end
section
variable {X : Cx}
end
section
variable {X : Cx}
end
theorem iter_any {prog : Program} {w : World} {A : Around} {E : Value → Shared → Prop} {s : Shared} {l : Addr} {items : Array Value} {Q : Value → Shared → Prop} (hl : s.heap.IsList l items)
    (h : ∀ s₂ : Shared, s₂ = { s with heap := s.heap.push { cls := .type "list_iterator", data := .fields #[.ref l, .int 0 0] } } →
      (s₂.heap.IsListIter s.heap.objs.size l 0 ∧ s₂.heap.IsList l items) → l ≠ s.heap.objs.size → Q (.ref s.heap.objs.size) s₂) : wpAny (model prog w) A (pyIter (.ref l)) Q E s := by
  have hlt : l < s.heap.objs.size := by obtain ⟨_, e, _⟩ := hl; exact Heap.lt_size e
  exact wpAny_pyIter_list hl (h _ rfl ⟨⟨_, Heap.get?_push_size _ rfl, rfl, rfl⟩, hl.push _⟩ (Nat.ne_of_lt hlt))
theorem truth_bools {prog : Program} {w : World} {A : Around} {bs : List Bool} {its : List Value} (e : its = bs.map Value.bool) :
    TruthOf prog w A (fun i v => its.toArray[i]? = some v) (fun i => bs.getD i false) := fun i v s Q E hv hq => by
  have hv' : its[i]? = some v := by simpa using hv
  rw [e, List.getElem?_map] at hv'
  obtain ⟨b, hb, rfl⟩ := Option.map_eq_some_iff.mp hv'
  have hg : bs.getD i false = b := by rw [List.getD_eq_getElem?_getD, hb] <;> rfl
  have hq' : Q (bs.getD i false) s := hq
  rw [hg] at hq'
  exact wpAny_truthy_bool hq'
theorem all_range : ∀ bs : List Bool, (List.range bs.length).all (fun i => bs.getD i false) = bs.all id
  | [] => rfl
  | b :: bs => by
    rw [List.length_cons, List.range_succ_eq_map, List.all_cons, List.all_map, List.all_cons, ← all_range bs]
    all_goals rfl
section
variable {X : Cx}
def rAll (K : PySem.W.Frag) : List V → Hp → VK → Prop := fun vs H Q => ∃ (a : Addr) (bs : List Bool), vs = [V.ref a] ∧ SqL K H a (bs.map V.bl) ∧ Q (.bl (bs.all id)) H
theorem cr_all (hc : X.calm = true) : CallR X (.builtin "all") (rAll X.K) := by
  intro pins s σ H vs us Q I r h
  obtain ⟨a, bs, rfl, hs, q⟩ := h
  obtain ⟨its, rv, hl, _⟩ := I.list hs
  rw [Vals.ref1 r]
  have hb := rv.bls
  refine call_all_walk (iter_any hl.isList fun s₂ e2 st hne => ?_)
  subst e2
  refine ⟨_, _, _, _, _, _, _, rfl, Walks.list (A := X.A.in1) (I.ok.hd hc) _ a hne its.toArray, st, truth_bools hb, fun h' tk hk => ?_⟩
  refine ⟨.bl _, H, I.kept fun b o eo => hk b o (fun hmem => ?_) (Heap.get?_push_of_some _ eo), ?_, q⟩
  · rcases List.mem_cons.mp hmem with e1 | hmem
    · exact absurd (e1 ▸ Heap.lt_size eo) (Nat.lt_irrefl _)
    · cases hmem
  · show Value.bool _ = Value.bool _
    rw [← all_range, hb, List.size_toArray, List.length_map]
end
section
variable {X : Cx} {pins : List (Addr × Obj)} {σ : St} {H : Hp} {s : Shared}
end
section
variable {X : Cx}
end
end L2
namespace L2
open PySem PySem.Spec PyProof.Rows
abbrev CellAt (h : Heap) (c : Addr) (v : Option Value) : Prop := h.IsCell c v
def relS (scope sc : Scope) : Scope :=
  { scope with names := scope.names.map fun (n, k) => if (k == .free && sc.kind == .function && sc.names.lookup n == some .cell) then (n, .cell) else (n, k) }
def cloFrom (cells : List (Str × Addr)) : List (Str × NameKind) → List (Str × Addr) → List (Str × Addr)
  | [], acc => acc
  | (n, k) :: r, acc => if k == .free then cloFrom cells r ((n, (cells.lookup n).getD 0) :: acc) else cloFrom cells r acc
theorem closure_loop (env : Env) (f : Str × NameKind → List (Str × Addr) → Sem (ForInStep (List (Str × Addr))))
    (hf : ∀ n k c, f (n, k) c = if k == .free then (do let a ← cellOf env n; pure (.yield ((n, a) :: c))) else pure (.yield c)) :
    ∀ (names : List (Str × NameKind)) (acc : List (Str × Addr)), (∀ y ∈ names, y.2 = .free → ∃ c, env.cells.lookup y.1 = some c) → forIn names acc f = pure (cloFrom env.cells names acc)
  | [], acc, _ => by rw [List.forIn_nil]; rfl
  | (n, k) :: r, acc, h => by
    rw [List.forIn_cons, hf]
    have ih := fun acc => closure_loop env f hf r acc fun y hy => h y (List.mem_cons_of_mem _ hy)
    unfold cloFrom
    by_cases hk : (k == NameKind.free) = true
    · rw [if_pos hk, if_pos hk]
      obtain ⟨c, hc⟩ := h (n, k) List.mem_cons_self (by simpa using hk)
      have e : cellOf env n = pure c := by unfold cellOf; rw [hc]
      rw [e]
      have e2 : (env.cells.lookup n).getD 0 = c := by rw [hc]; rfl
      rw [e2]
      exact ih _
    · rw [if_neg hk, if_neg hk]
      exact ih _
theorem closure_ok {scope : Scope} {env : Env} (h : ∀ y ∈ scope.names, y.2 = .free → ∃ c, env.cells.lookup y.1 = some c) : closureFor scope env = pure (cloFrom env.cells scope.names []) := by
  simp only [closureFor]
  rw [closure_loop env _ (fun n k c => rfl) scope.names [] h]
  rfl
theorem mem_lookup {α : Type} : ∀ {l : List (Str × α)} {n : Str} {c : α}, (n, c) ∈ l → ∃ c', l.lookup n = some c'
  | (k, v) :: r, n, c, h => by
    rw [List.lookup_cons]
    cases hb : n == k with
    | true => exact ⟨_, rfl⟩
    | false =>
      rcases List.mem_cons.mp h with e | h
      · cases e; simp at hb
      · exact mem_lookup h
theorem cloFrom_mem {cells : List (Str × Addr)} : ∀ {names : List (Str × NameKind)} {acc : List (Str × Addr)} {n : Str} {c : Addr}, (n, c) ∈ cloFrom cells names acc → (n, c) ∈ acc ∨ ((n, .free) ∈ names ∧ c = (cells.lookup n).getD 0)
  | [], _, _, _, h => .inl h
  | (m, k) :: r, acc, n, c, h => by
    unfold cloFrom at h
    split at h
    · rename_i hk
      have hk : k = .free := by simpa using hk
      rcases cloFrom_mem h with h | ⟨h1, h2⟩
      · rcases List.mem_cons.mp h with e | h
        · cases e; exact .inr ⟨hk ▸ List.mem_cons_self, rfl⟩
        · exact .inl h
      · exact .inr ⟨List.mem_cons_of_mem _ h1, h2⟩
    · rcases cloFrom_mem h with h | ⟨h1, h2⟩
      · exact .inl h
      · exact .inr ⟨List.mem_cons_of_mem _ h1, h2⟩
theorem cloFrom_acc {cells : List (Str × Addr)} : ∀ {names : List (Str × NameKind)} {acc : List (Str × Addr)} {p : Str × Addr}, p ∈ acc → p ∈ cloFrom cells names acc
  | [], _, _, h => h
  | (m, k) :: r, acc, p, h => by
    unfold cloFrom
    split
    · exact cloFrom_acc (List.mem_cons_of_mem _ h)
    · exact cloFrom_acc h
theorem cloFrom_has {cells : List (Str × Addr)} : ∀ {names : List (Str × NameKind)} {acc : List (Str × Addr)} {n : Str}, (n, .free) ∈ names → (n, (cells.lookup n).getD 0) ∈ cloFrom cells names acc
  | (m, k) :: r, acc, n, h => by
    unfold cloFrom
    rcases List.mem_cons.mp h with e | h
    · cases e
      exact cloFrom_acc List.mem_cons_self
    · split
      · exact cloFrom_has h
      · exact cloFrom_has h
theorem cells_mem : ∀ {names : List (Str × NameKind)} {h : Heap} {acc : List (Str × Addr)} {x : Str} {c : Addr}, (x, c) ∈ cellsFrom h.objs.size names acc →
    (x, c) ∈ acc ∨ ((x, .cell) ∈ names ∧ h.objs.size ≤ c ∧ CellAt (pushCells h names) c none)
  | [], _, _, _, _, h => .inl h
  | (n, k) :: r, h, acc, x, c, hm => by
    unfold cellsFrom at hm
    unfold pushCells
    split at hm
    · rename_i hk
      rw [if_pos hk]
      have hk : k = .cell := by simpa using hk
      rw [← Heap.size_push h { cls := .type "cell", data := .cell none }] at hm
      rcases cells_mem hm with hm | ⟨h1, h2, h3⟩
      · rcases List.mem_cons.mp hm with e | hm
        · cases e
          exact .inr ⟨hk ▸ List.mem_cons_self, Nat.le_refl _, _, pushCells_keeps r _ _ _ (Heap.get?_push_size _ rfl), rfl⟩
        · exact .inl hm
      · rw [Heap.size_push] at h2
        exact .inr ⟨List.mem_cons_of_mem _ h1, Nat.le_of_succ_le h2, h3⟩
    · rename_i hk
      rw [if_neg hk]
      rcases cells_mem hm with hm | ⟨h1, h2, h3⟩
      · exact .inl hm
      · exact .inr ⟨List.mem_cons_of_mem _ h1, h2, h3⟩
theorem cells_acc : ∀ {names : List (Str × NameKind)} {n : Nat} {acc : List (Str × Addr)} {p : Str × Addr}, p ∈ acc → p ∈ cellsFrom n names acc
  | [], _, _, _, h => h
  | (m, k) :: r, n, acc, p, h => by
    unfold cellsFrom
    split
    · exact cells_acc (List.mem_cons_of_mem _ h)
    · exact cells_acc h
theorem cells_has : ∀ {names : List (Str × NameKind)} {n : Nat} {acc : List (Str × Addr)} {x : Str}, (x, .cell) ∈ names → ∃ c, (x, c) ∈ cellsFrom n names acc
  | (m, k) :: r, n, acc, x, h => by
    unfold cellsFrom
    rcases List.mem_cons.mp h with e | h
    · cases e
      exact ⟨n, cells_acc List.mem_cons_self⟩
    · split
      · exact cells_has h
      · exact cells_has h
theorem cells_inj : ∀ {names : List (Str × NameKind)} {h : Heap} {acc : List (Str × Addr)} {x y : Str} {c : Addr}, (∀ p ∈ acc, p.2 < h.objs.size) → (∀ x y c, (x, c) ∈ acc → (y, c) ∈ acc → x = y) →
    (x, c) ∈ cellsFrom h.objs.size names acc → (y, c) ∈ cellsFrom h.objs.size names acc → x = y
  | [], _, _, _, _, _, _, hi, h1, h2 => hi _ _ _ h1 h2
  | (n, k) :: r, h, acc, x, y, c, hl, hi, h1, h2 => by
    unfold cellsFrom at h1 h2
    split at h1
    · rename_i hk
      rw [if_pos hk] at h2
      rw [← Heap.size_push h { cls := .type "cell", data := .cell none }] at h1 h2
      refine cells_inj (h := h.push _) (fun p hp => ?_) (fun x y c a b => ?_) h1 h2
      · rw [Heap.size_push]
        rcases List.mem_cons.mp hp with rfl | hp
        · exact Nat.lt_succ_self _
        · exact Nat.lt_succ_of_lt (hl p hp)
      · rcases List.mem_cons.mp a with e | a <;> rcases List.mem_cons.mp b with e' | b
        · cases e; cases e'; rfl
        · cases e; exact absurd (hl _ b) (Nat.lt_irrefl _)
        · cases e'; exact absurd (hl _ a) (Nat.lt_irrefl _)
        · exact hi _ _ _ a b
    · rename_i hk
      rw [if_neg hk] at h2
      exact cells_inj hl hi h1 h2
theorem newEnv_comp {M : Model} {A : Around} {E : Value → Shared → Prop} {s : Shared} {scope : Scope} {globals : Addr} {closure : List (Str × Addr)} {qual : Str} {func : Option Addr} {code : Value} {around : Env} {builtins : Addr} {Q : Env → Shared → Prop}
    (h : Q (newEnv scope s.heap.objs.size globals (cellsFrom (s.heap.objs.size + 1) scope.names closure) qual func code (some around) builtins)
      { s with heap := pushCells (s.heap.push { cls := .type "dict", data := .dict #[] }) scope.names }) :
    wpAny M A (newFunctionEnv scope globals closure [] qual func code (some around) builtins) Q E s := by
  simp only [newFunctionEnv, Option.isSome_some, if_true]
  refine wpAny_bind (wpAny_alloc ?_)
  refine wpAny_bind (wpAny_layCells _ (fun n k c => rfl) scope.names closure _ _ ?_)
  rw [show ({ s with heap := s.heap.push { cls := .type "dict", data := .dict #[] } } : Shared).heap.objs.size = s.heap.objs.size + 1 from Heap.size_push ..]
  rw [List.forIn_nil]
  exact wpAny_bind (wpAny_pure (wpAny_pure h))
theorem lookup_relS {sc : Scope} : ∀ {names : List (Str × NameKind)} {x : Str} {k : NameKind},
    (names.map fun (n, k) => if (k == NameKind.free && sc.kind == .function && sc.names.lookup n == some .cell) then (n, NameKind.cell) else (n, k)).lookup x = some k →
    ∃ k', names.lookup x = some k' ∧ (k = k' ∨ (k' = .free ∧ k = .cell))
  | [], _, _, h => by simp at h
  | (n, k₀) :: r, x, k, h => by
    have ih := @lookup_relS sc r x k
    have h' : List.lookup x ((if (k₀ == NameKind.free && sc.kind == .function && sc.names.lookup n == some .cell) = true then (n, NameKind.cell) else (n, k₀)) :: (r.map _)) = some k := h
    cases hx : x == n with
    | true =>
      simp only [List.lookup_cons, hx]
      by_cases hc : (k₀ == NameKind.free && sc.kind == .function && sc.names.lookup n == some .cell) = true
      · rw [if_pos hc] at h'
        simp only [List.lookup_cons, hx] at h'
        cases h'
        simp only [Bool.and_eq_true, beq_iff_eq] at hc
        exact ⟨k₀, rfl, .inr ⟨hc.1.1, rfl⟩⟩
      · rw [if_neg hc] at h'
        simp only [List.lookup_cons, hx] at h'
        cases h'
        exact ⟨_, rfl, .inl rfl⟩
    | false =>
      simp only [List.lookup_cons, hx]
      by_cases hc : (k₀ == NameKind.free && sc.kind == .function && sc.names.lookup n == some .cell) = true
      · rw [if_pos hc] at h'
        simp only [List.lookup_cons, hx] at h'
        exact ih h'
      · rw [if_neg hc] at h'
        simp only [List.lookup_cons, hx] at h'
        exact ih h'
structure BlkOk (N : List Str) (sc scope : Scope) (own : List (Str × Nat)) : Prop where
  kind : scope.kind = .function
  uniq : ∀ y ∈ scope.names, scope.names.lookup y.1 = some y.2
  ix : ∀ p ∈ own, N[p.2]? = some p.1
  free : ∀ y ∈ scope.names, y.2 = .free → sc.names.lookup y.1 = some .cell ∨ sc.names.lookup y.1 = some .free
  own : ∀ y ∈ scope.names, y.2 = .local ∨ y.2 = .cell → y.1 ∈ own.map (·.1) ∨ y.1 ∉ N
def wipe (σ : St) : List Nat → St
  | [] => σ
  | v :: vs => (wipe σ vs).set v none
theorem wipe_length (σ : St) : ∀ vs : List Nat, (wipe σ vs).length = σ.length
  | [] => rfl
  | v :: vs => by unfold wipe; rw [List.length_set, wipe_length σ vs]
theorem wipe_some {σ : St} {i : Nat} {x : V} : ∀ {vs : List Nat}, (wipe σ vs)[i]? = some (some x) → σ[i]? = some (some x) ∧ i ∉ vs
  | [], h => ⟨h, by simp⟩
  | v :: vs, h => by
    unfold wipe at h
    by_cases hi : v = i
    · subst hi
      by_cases hv : v < (wipe σ vs).length
      · rw [List.getElem?_set_self hv] at h; cases h
      · rw [List.getElem?_eq_none (by simpa using hv)] at h; cases h
    · rw [List.getElem?_set_ne hi] at h
      obtain ⟨h1, h2⟩ := wipe_some h
      exact ⟨h1, by simp only [List.mem_cons, not_or]; exact ⟨fun e => hi e.symm, h2⟩⟩
abbrev Cx.blk (X : Cx) (s : Shared) (H : Hp) (scope : Scope) (cenv : Env) (fp : List Addr) : Cx := { X with s_0 := s, H_0 := H, env := cenv, outer := X.stack, ex := fp, fn := fun x => scope.names.lookup x == some .cell, pn := [], xe := fun _ _ => False }
section
variable {X : Cx} {pins : List (Addr × Obj)} {σ : St} {H : Hp} {s : Shared}
theorem block_start {scope : Scope} {own : List (Str × Nat)} {fp : List Addr} (I : Inv X pins σ H s) (ok : BlkOk X.N X.env.scope scope own) (hN : X.N.Nodup) (hfp : ∀ b ∈ fp, FpOk X pins H b ∧ b < s.heap.objs.size) :
    Inv (X.blk s H scope (compEnvC scope (cellsFrom (s.heap.objs.size + 1) scope.names (cloFrom X.env.cells scope.names [])) s.heap.objs.size X.env) fp) [] (wipe σ (own.map (·.2))) H { s with heap := pushCells (s.heap.push { cls := .type "dict", data := .dict #[] }) scope.names } := by
  have hfree : ∀ y ∈ scope.names, y.2 = .free → ∃ c, X.env.cells.lookup y.1 = some c := fun y hy e => by
    rcases ok.free y hy e with k | k
    · exact I.ok.has _ (.inl k)
    · exact I.ok.has _ (.inr k)
  generalize hcenv : compEnvC scope (cellsFrom (s.heap.objs.size + 1) scope.names (cloFrom X.env.cells scope.names [])) s.heap.objs.size X.env = cenv
  have kp : ∀ b o, s.heap.get? b = some o → (pushCells (s.heap.push { cls := .type "dict", data := .dict #[] }) scope.names).get? b = some o := fun b o e => pushCells_keeps _ _ _ _ (Heap.get?_push_of_some _ e)
  have hL : cenv.locals = s.heap.objs.size := by rw [← hcenv]; rfl
  have hcl : cenv.cells = cellsFrom (s.heap.objs.size + 1) scope.names (cloFrom X.env.cells scope.names []) := by rw [← hcenv]; rfl
  have hsc : cenv.scope = relS scope X.env.scope := by rw [← hcenv]; rfl
  rw [← Heap.size_push s.heap { cls := .type "dict", data := .dict #[] }] at hcl
  have cm : ∀ {y c}, (y, c) ∈ cloFrom X.env.cells scope.names [] → X.env.cells.lookup y = some c ∧ c < s.heap.objs.size := fun {y c} hm => by
    rcases cloFrom_mem hm with hm | ⟨h1, rfl⟩
    · cases hm
    · obtain ⟨c, hc⟩ := hfree _ h1 rfl
      rw [hc]
      obtain ⟨w, z⟩ := I.cell _ _ hc
      exact ⟨rfl, z.lt⟩
  have mem : ∀ {y c}, cenv.cells.lookup y = some c → (X.env.cells.lookup y = some c ∧ c < s.heap.objs.size) ∨ (s.heap.objs.size + 1 ≤ c ∧ CellAt (pushCells (s.heap.push { cls := .type "dict", data := .dict #[] }) scope.names) c none) := fun {y c} e => by
    rw [hcl] at e
    rcases cells_mem (PySem.mem_of_lookup e) with hm | ⟨_, h2, h3⟩
    · exact .inl (cm hm)
    · rw [Heap.size_push] at h2; exact .inr ⟨h2, h3⟩
  have look : ∀ {y}, scope.names.lookup y = some .free → ∃ c, cenv.cells.lookup y = some c ∧ X.env.cells.lookup y = some c := fun {y} hl => by
    have hy : (y, NameKind.free) ∈ scope.names := PySem.mem_of_lookup hl
    obtain ⟨c', e'⟩ := mem_lookup (cells_acc (names := scope.names) (n := (s.heap.push { cls := .type "dict", data := .dict #[] }).objs.size) (cloFrom_has (cells := X.env.cells) (acc := []) hy))
    rw [← hcl] at e'
    refine ⟨c', e', ?_⟩
    rw [hcl] at e'
    rcases cells_mem (PySem.mem_of_lookup e') with hm | ⟨h1, _, _⟩
    · exact (cm hm).1
    · have := ok.uniq _ h1
      rw [hl] at this; cases this
  have okB : (X.blk s H scope cenv fp).Ok := by
    refine ⟨I.ok.mod, by show cenv.scope.kind = _; rw [hsc]; exact ok.kind, by show cenv.globals = _; rw [← hcenv]; exact I.ok.glob, by show cenv.builtins = _; rw [← hcenv]; exact I.ok.blt, by show s.heap.objs.size ≤ cenv.locals; rw [hL]; exact Nat.le_refl _,
      fun y z c e1 e2 => ?_, fun y hy => ?_, fun y c z e => ?_, I.ok.hd, I.ok.frames, .inl rfl, fun b hb => ⟨?_, fun y c e z => ?_⟩, I.bs, Nat.le_trans I.ok.bsz I.sz, fun b o e hb => ?_, fun b hb z => ?_, I.stack, I.stkFree⟩
    · have e1 : cenv.cells.lookup y = some c := e1
      have e2 : cenv.cells.lookup z = some c := e2
      rw [hcl] at e1 e2
      refine cells_inj (fun p hp => ?_) (fun y z c a b => I.ok.inj y z c (cm a).1 (cm b).1) (PySem.mem_of_lookup e1) (PySem.mem_of_lookup e2)
      rw [Heap.size_push]
      exact Nat.lt_succ_of_lt (cm (y := p.1) (c := p.2) hp).2
    · show ∃ c, cenv.cells.lookup y = some c
      have key : ∀ k, cenv.kindOf y = some k → (k = .cell ∨ k = .free) → ∃ c, cenv.cells.lookup y = some c := fun k hk hk' => by
        unfold Env.kindOf at hk
        rw [hsc] at hk
        obtain ⟨k', e, r⟩ := lookup_relS hk
        have : k' = .cell ∨ k' = .free := by
          rcases r with rfl | ⟨rfl, _⟩
          · exact hk'
          · exact .inr rfl
        rcases this with rfl | rfl
        · obtain ⟨c, hm⟩ := cells_has (n := (s.heap.push { cls := .type "dict", data := .dict #[] }).objs.size) (acc := cloFrom X.env.cells scope.names []) (PySem.mem_of_lookup e)
          obtain ⟨c', e'⟩ := mem_lookup hm
          exact ⟨c', by rw [hcl]; exact e'⟩
        · obtain ⟨c, h1, _⟩ := look e
          exact ⟨c, h1⟩
      rcases hy with hy | hy
      · exact key _ hy (.inl rfl)
      · exact key _ hy (.inr rfl)
    · have z : (scope.names.lookup y == some NameKind.cell) = true := z
      have z : scope.names.lookup y = some .cell := by simpa using z
      have e : cenv.cells.lookup y = some c := e
      rw [hcl] at e
      rcases cells_mem (PySem.mem_of_lookup e) with hm | ⟨_, h2, _⟩
      · rcases cloFrom_mem hm with hm | ⟨h1, _⟩
        · cases hm
        · have q := ok.uniq _ h1
          rw [z] at q; cases q
      · rw [Heap.size_push] at h2
        exact Nat.le_of_succ_le h2
    · show b ≠ cenv.locals
      rw [hL]; exact Nat.ne_of_lt (hfp b hb).2
    · have e : cenv.cells.lookup y = some c := e
      rcases mem e with ⟨h1, _⟩ | ⟨h1, _⟩
      · exact (hfp b hb).1.2.2.2.2.1 y c h1 z
      · have h2 : s.heap.objs.size + 1 ≤ b := by rw [← z]; exact h1
        exact absurd (Nat.lt_of_lt_of_le (hfp b hb).2 (Nat.le_of_succ_le h2)) (Nat.lt_irrefl _)
    · rcases (hfp b hb).1.2.2.2.1 with z | z
      · exact I.ok.noex b o e z
      · exact absurd (Nat.lt_of_lt_of_le (Heap.lt_size e) (Nat.le_trans I.ok.bsz z)) (Nat.lt_irrefl _)
    · rcases List.mem_cons.mp (I.stkSub b z) with z | z
      · exact (hfp b hb).1.2.1 z
      · exact (hfp b hb).1.2.2.1 z
  refine ⟨okB, rfl, I.bare, Un.kept kp, ⟨fun _ => none, ?_, fun i y av e1 e2 e3 => ?_⟩, fun y c e => ?_, ?_, fun y c e => ?_, fun p hp => ?_, I.hok.kept kp, by rw [wipe_length]; exact I.len⟩
  · show Heap.Ns _ cenv.locals _
    rw [hL]
    exact Heap.Ns.keeps (Heap.Ns.new ..) fun b o e => pushCells_keeps _ _ _ _ e
  · obtain ⟨e2, hne⟩ := wipe_some e2
    have hfr : scope.names.lookup y = some .free ∧ (cenv.kindOf y = some .cell ∨ cenv.kindOf y = some .free) := by
      have key : ∀ k, cenv.scope.names.lookup y = some k → k = .local ∨ k = .cell ∨ k = .free → scope.names.lookup y = some .free ∧ (cenv.kindOf y = some .cell ∨ cenv.kindOf y = some .free) := fun k hk hk' => by
        have hk0 := hk
        rw [hsc] at hk
        obtain ⟨k', e, r⟩ := lookup_relS hk
        have no : ¬ (k' = .local ∨ k' = .cell) := fun hh => by
          rcases ok.own _ (PySem.mem_of_lookup e) hh with e' | e'
          · obtain ⟨p, hp, hpy⟩ := List.mem_map.mp e'
            have e3 := ok.ix p hp
            have : p.1 = y := hpy
            rw [this] at e3
            exact hne (List.mem_map.mpr ⟨p, hp, nodup_ix hN e3 e1⟩)
          · exact e' (List.mem_of_getElem? e1)
        rcases r with rfl | ⟨rfl, rfl⟩
        · rcases hk' with rfl | rfl | rfl
          · exact absurd (.inl rfl) no
          · exact absurd (.inr rfl) no
          · exact ⟨e, .inr hk0⟩
        · exact ⟨e, .inl hk0⟩
      have e3 : Vis cenv.scope y := e3
      rcases e3 with e3 | e3 | e3
      · exact key _ e3 (.inl rfl)
      · exact key _ e3 (.inr (.inl rfl))
      · exact key _ e3 (.inr (.inr rfl))
    obtain ⟨m, hn, hl⟩ := I.loc
    have hvis : Vis X.env.scope y := (ok.free _ (PySem.mem_of_lookup hfr.1) rfl).elim (fun k => .inr (.inl k)) (fun k => .inr (.inr k))
    obtain ⟨w, r, q⟩ := hl i y av e1 e2 hvis
    refine ⟨w, r, .inr ⟨hfr.2, ?_⟩⟩
    obtain ⟨c, h1, h2⟩ := look hfr.1
    rcases q with ⟨k, _⟩ | ⟨_, c', e', z⟩
    · have k : X.env.scope.names.lookup y = some .local := k
      rcases ok.free _ (PySem.mem_of_lookup hfr.1) rfl with k' | k' <;> rw [show X.env.scope.names.lookup y = _ from k'] at k <;> cases k
    · rw [h2] at e'; cases e'
      exact ⟨c, h1, z.keeps kp⟩
  · have e : cenv.cells.lookup y = some c := e
    rcases mem e with ⟨h1, _⟩ | ⟨_, z⟩
    · obtain ⟨w, z⟩ := I.cell y c h1
      exact ⟨w, z.keeps kp⟩
    · exact ⟨_, z⟩
  · show H cenv.locals = none
    rw [hL]; exact I.hok.fresh (Nat.le_refl _)
  · have e : cenv.cells.lookup y = some c := e
    rcases mem e with ⟨h1, _⟩ | ⟨h1, _⟩
    · exact I.freeC y c h1
    · exact I.hok.fresh (Nat.le_of_succ_le h1)
  · exact absurd (show p ∈ ([] : List (Addr × Obj)) ++ [] from hp) (by simp)
theorem app_ok {E : Value → Shared → Prop} {D : Addr} {xs : List V} {y : V} {v : Value} {Q : Value → Shared → Prop} (I : Inv X pins σ H s) (hD : H D = some (.lst xs)) (hz : xs.length < sizeLine) (r : RelV y v)
    (h : ∀ s', Inv X pins σ (upd H D (.lst (xs ++ [y]))) s' → Q .none s') : wpAny (model X.prog X.w) X.A (call (.builtin "list.append") [.ref D, v]) Q E s := by
  obtain ⟨hz', its, n, ri, e⟩ := I.hok D _ hD
  have hl := ri.length
  refine append_at (hsz := by rw [List.size_toArray]; omega) e fun h' sb ho' => ?_
  refine h { s with heap := h' } (I.write (t' := s.toks) (by rw [hD]; trivial) (.inl rfl) (fun b u hb q => (sb.2 b hb).trans q) ⟨_, ho'⟩ ⟨by rw [List.length_append]; exact hz, its ++ [v], n + 1, ri.append (.cons r .nil), ?_⟩)
  rw [ho']
  simp
def PTs (X : Cx) (ifs : List Expr) (t : TT) : Prop :=
  ∀ (pins : List (Addr × Obj)) (s : Shared) (σ : St) (H : Hp) (Q : Bool → Hp → Prop), Inv X pins σ H s → t σ H Q →
    wpAny (model X.prog X.w) X.A (forIn ifs true fun c r => if r = true then do let ok ← isTrue c X.env (eval c X.env); pure (ForInStep.yield ok) else pure (ForInStep.yield r)) (TP X pins σ Q) X.xe s
def tYes : TT := fun _ H Q => Q true H
theorem pts_nil : PTs X [] tYes := fun _ _ _ H _ I h => wpAny_tests_nil ⟨H, I, h⟩
theorem pts_one {c : Expr} {t : TT} (h : PT X c t) : PTs X [c] t := fun pins s σ H Q I hw => wpAny_tests_one (h pins s σ H Q I hw)
end
theorem thnF {α : Type} {t : Sem α} {Q Q' : α → Shared → Prop} {M : Model} {A : Around} {E : Value → Shared → Prop} {s : Shared} (h : wpAny M A t Q (fun _ _ => False) s) (hQ : ∀ a s, Q a s → Q' a s) : wpAny M A t Q' E s := wpAny_mono h hQ fun _ _ z => False.elim z
theorem compLoop_any {prog : Program} {w : World} {A : Around} {R : Result → Shared → Prop} {s : Shared} {elt target iter : Expr} {ifs : List Expr} {scope : Scope} {pos : Pos} {it acc : Value} {env : Env} (I : Nat → Shared → Prop)
    (turn : ∀ n s, I n s → wpAny (model prog w) A (pyNext it) (fun r s₁ => match r with
      | none => R (.ok .next) s₁
      | some v => wpAny (model prog w) A (letOwnedTupleGo target it v) (fun _ s₁' => wpAny (model prog w) A (assign target env v) (fun _ s₂ =>
          wpAny (model prog w) A (forIn ifs true fun c r => if r = true then do let ok ← isTrue c env (eval c env); pure (ForInStep.yield ok) else pure (ForInStep.yield r)) (fun ok s₃ =>
            if ok = true then wpAny (model prog w) A (eval elt env) (fun x s₄ =>
              wpAny (model prog w) A (call (.builtin "list.append") [acc, x]) (fun _ s₅ => ∃ m, m < n ∧ I m s₅) (notedBy (model prog w) A env fun e s' => R (.error e) s') s₄) (notedBy (model prog w) A env fun e s' => R (.error e) s') s₃
            else ∃ m, m < n ∧ I m s₃) (notedBy (model prog w) A env fun e s' => R (.error e) s') s₂) (notedBy (model prog w) A env fun e s' => R (.error e) s') s₁') (notedBy (model prog w) A env fun e s' => R (.error e) s') s₁) (notedBy (model prog w) A env fun e s' => R (.error e) s') s)
    (n : Nat) (h : I n s) :
    codeAny (model prog w) A (.compLoop (.ListComp elt [⟨target, iter, ifs, 0⟩] scope pos) 0 it acc env) R s := by
  refine codeAny_loop rfl I (fun n s hI => ?_) n h
  show wpAny _ A ((compTurn (.ListComp elt [⟨target, iter, ifs, 0⟩] scope pos) 0 it acc env).onRaise (fun x => do noteFrame x env; theTreesLotGoes x)) _ _ s
  refine wpAny_noted ?_
  rw [compTurn_list]
  refine wpAny_bind (wpAny_standAt (wpAny_bind (wpAny_mono (turn n s hI) (fun r s₁ h₁ => ?_) fun _ _ h' => h')))
  cases r with
  | none => exact wpAny_pure h₁
  | some v =>
    refine wpAny_bind (wpAny_mono h₁ (fun _ s₁' h₁' => ?_) fun _ _ h' => h')
    refine wpAny_bind (wpAny_mono h₁' (fun _ s₂ h₂ => wpAny_bind (wpAny_mono h₂ (fun ok s₃ h₃ => ?_) fun _ _ h' => h')) fun _ _ h' => h')
    cases ok with
    | false => exact wpAny_pure ⟨rfl, h₃⟩
    | true =>
      exact wpAny_bind (wpAny_bind (wpAny_mono h₃ (fun x s₄ h₄ => wpAny_bind (wpAny_mono h₄ (fun _ s₅ h₅ => wpAny_pure (wpAny_pure ⟨rfl, h₅⟩)) fun _ _ h' => h')) fun _ _ h' => h'))
section
variable {X : Cx}
def tLc (wi : TI) (g : TG) (tt : TT) (te : TE) (vs : List Nat) : TE := fun σ H Q => wi σ H fun J H1 => ∀ D, H1 D = none → ∃ W : Nat → Nat → Hp → Prop, (∃ m, W 0 m (upd H1 D (.lst []))) ∧ ∀ i m H, W i m H →
  (J.stop i H ∧ Q (.ref D) H) ∨ (J.go i H ∧ ∃ Nx : Hp → Prop, (∀ H', Nx H' → ∃ m', m' < m ∧ W (i + 1) m' H') ∧ ∀ x H', J.yld i H x H' → g x (wipe σ vs) H' fun σ2 H2 => wipe σ2 vs = wipe σ vs ∧ tt σ2 H2 fun b H3 =>
    if b = true then te σ2 H3 fun y H4 => ∃ acc, H4 D = some (.lst acc) ∧ acc.length < sizeLine ∧ Nx (upd H4 D (.lst (acc ++ [y]))) else Nx H3)
theorem lc_core {pins : List (Addr × Obj)} {s : Shared} {σ : St} {H : Hp} {Q : VK} {elt tg iter : Expr} {ifs : List Expr} {scope : Scope} {own : List (Str × Nat)} {pos pos' : Pos} {wi : TI} {g : TG} {tt : TT} {te : TE} {use : Option (Value → Sem Unit)} {Qf : Value → Shared → Prop}
    (hc : X.calm = true) (hN : X.N.Nodup) (I : Inv X pins σ H s) (hi : PI X tg iter wi) (ok : BlkOk X.N X.env.scope scope own)
    (hg : ∀ (s : Shared) (H : Hp) (C : Addr) (cl : List (Str × Addr)) (fp : List Addr), PG (X.blk s H scope (compEnvC scope cl C X.env) fp) tg g) (ht : ∀ (s : Shared) (H : Hp) (C : Addr) (cl : List (Str × Addr)) (fp : List Addr), PTs (X.blk s H scope (compEnvC scope cl C X.env) fp) ifs tt)
    (he : ∀ (s : Shared) (H : Hp) (C : Addr) (cl : List (Str × Addr)) (fp : List Addr), PE (X.blk s H scope (compEnvC scope cl C X.env) fp) elt te) (hs : ∀ x, foldedSetIterable iter X.env x = pure x)
    (h : tLc wi g tt te (own.map (·.2)) σ H Q)
    (hRR : ∀ D C s' m H', Inv X pins σ H' s' → Q (.ref D) H' → s'.heap.Ns C m → FpOk X pins H' C → compPost (model X.prog X.w) X.A X.xe use Qf (.ref D) C (.ok .next) s') :
    wpAny (model X.prog X.w) X.A (comprehension (.ListComp elt [⟨tg, iter, ifs, 0⟩] scope pos) scope X.env pos' (newList []) false (eval iter X.env) use) Qf X.xe s := by
  have hfree : ∀ y ∈ scope.names, y.2 = .free → ∃ c, X.env.cells.lookup y.1 = some c := fun y hy e => by
    rcases ok.free y hy e with k | k
    · exact I.ok.has _ (.inl k)
    · exact I.ok.has _ (.inr k)
  refine wpAny_comprehension_free (use := use) rfl hs (closure_ok hfree) ok.kind (fun y hy e => by rw [ok.uniq y hy, e])
    (thn (hi pins s σ H _ I h) fun xv s1 hx => thn hx fun itv s2 h2 => ?_)
  obtain ⟨it, fp, tn, J, H2, e, I2, T, st2, f2, q⟩ := h2
  subst e
  refine wpAny_newObj_type (newEnv_comp ?_) (by show 0 ≤ sizeLine; decide)
  generalize hD : s2.heap.objs.size = D
  have hDn : H2 D = none := I2.hok.fresh (Nat.le_of_eq hD)
  obtain ⟨W, ⟨m0, w0⟩, turn⟩ := q D hDn
  generalize hs3 : ({ s2 with heap := s2.heap.push { cls := .type "list", data := .seq ([] : List Value).toArray } } : Shared) = s3
  have I3 : Inv X pins σ (upd H2 D (.lst [])) s3 := by
    rw [← hs3]
    refine I2.laid (t' := s2.toks) (fun b o e => Heap.get?_push_of_some _ e) (Nat.le_of_eq hD) ⟨Nat.zero_le _, [], 0, .nil, ?_⟩
    rw [← hD]
    exact Heap.get?_push_size _ rfl
  have h3 : s3.heap = s2.heap.push { cls := .type "list", data := .seq ([] : List Value).toArray } := by rw [← hs3]
  have sz : ∀ b ∈ fp, b < s2.heap.objs.size := fun b hb => by
    obtain ⟨o, e, _⟩ := T.obj _ _ st2 b hb
    exact Heap.lt_size e
  have f3 : ∀ b ∈ fp, FpOk X pins (upd H2 D (.lst [])) b ∧ b < s3.heap.objs.size := fun b hb => by
    have hlt := sz b hb
    refine ⟨⟨?_, (f2 b hb).2⟩, by rw [h3, Heap.size_push]; exact Nat.lt_succ_of_lt hlt⟩
    rw [upd_ne (by rw [← hD]; exact Nat.ne_of_lt hlt)]
    exact (f2 b hb).1
  have st3 : tn 0 s3.heap := T.keep _ _ _ st2 fun b _ o e => by rw [h3]; exact Heap.get?_push_of_some _ e
  have I4 := block_start I3 ok hN f3
  have pg := hg s3 (upd H2 D (.lst [])) s3.heap.objs.size (cellsFrom (s3.heap.objs.size + 1) scope.names (cloFrom X.env.cells scope.names [])) fp
  have pt := ht s3 (upd H2 D (.lst [])) s3.heap.objs.size (cellsFrom (s3.heap.objs.size + 1) scope.names (cloFrom X.env.cells scope.names [])) fp
  have pe := he s3 (upd H2 D (.lst [])) s3.heap.objs.size (cellsFrom (s3.heap.objs.size + 1) scope.names (cloFrom X.env.cells scope.names [])) fp
  show codeAny _ _ (.compStart (.ListComp elt [⟨tg, iter, ifs, 0⟩] scope pos) 0 (.ref it) (.ref D) (compEnvC scope (cellsFrom (s3.heap.objs.size + 1) scope.names (cloFrom X.env.cells scope.names [])) s3.heap.objs.size X.env)) (compPost (model X.prog X.w) X.A X.xe use Qf (.ref D) s3.heap.objs.size) { s3 with heap := pushCells (s3.heap.push { cls := .type "dict", data := .dict #[] }) scope.names }
  have nfp : ∀ b ∈ fp, (upd H2 D (.lst [])) b = none := fun b hb => (f3 b hb).1.1
  generalize hce : compEnvC scope (cellsFrom (s3.heap.objs.size + 1) scope.names (cloFrom X.env.cells scope.names [])) s3.heap.objs.size X.env = ce at I4 pg pt pe ⊢
  have cL : ce.locals = s3.heap.objs.size := by subst hce; rfl
  generalize hH3 : upd H2 D (.lst []) = H3 at I3 I4 pg pt pe w0 nfp f3
  generalize hs4 : ({ s3 with heap := pushCells (s3.heap.push { cls := .type "dict", data := .dict #[] }) scope.names } : Shared) = s4 at I4 ⊢
  have st4 : tn 0 s4.heap := T.keep _ _ _ st3 fun b _ o e => by rw [← hs4]; exact pushCells_keeps _ _ _ _ (Heap.get?_push_of_some _ e)
  have stat : ∀ {σ' : St} {H' : Hp} {s' : Shared}, Inv (X.blk s3 H3 scope ce fp) [] σ' H' s' → (∀ b ∈ fp, H' b = none) → ∀ b ∈ fp, FpOk (X.blk s3 H3 scope ce fp) [] H' b := fun {σ' H' s'} I' hn b hb =>
    ⟨hn b hb, (I'.ok.exf b hb).1, I'.ok.exfs b hb, .inl hb, fun x c e => (I'.ok.exf b hb).2 x c e, fun p hp => absurd (show p ∈ ([] : List (Addr × Obj)) ++ [] from hp) (by simp)⟩
  have loop : codeAny (model X.prog X.w) X.A (.compLoop (.ListComp elt [⟨tg, iter, ifs, 0⟩] scope pos) 0 (.ref it) (.ref D) ce) (compPost (model X.prog X.w) X.A X.xe use Qf (.ref D) s3.heap.objs.size) s4 := by
    refine compLoop_any (fun n s' => ∃ i H', Inv (X.blk s3 H3 scope ce fp) [] (wipe σ (own.map (·.2))) H' s' ∧ tn i s'.heap ∧ (∀ b ∈ fp, H' b = none) ∧ W i n H') ?_ m0 ⟨0, H3, I4, st4, nfp, w0⟩
    rintro n s5 ⟨i, H5, I5, st5, n5, w5⟩
    rcases turn i n H5 w5 with ⟨stop, qq⟩ | ⟨go, Nx, hNx, step⟩
    · have td := T.done (X.blk s3 H3 scope ce fp) rfl rfl rfl hc i [] s5 _ H5 (fun _ _ => False) I5 (stat I5 n5) st5 stop
      refine thnF td fun r s6 ⟨hr, I6⟩ => ?_
      subst hr
      have I7 : Inv X pins σ H5 s6 := I3.call' (ch := fp) I6.os I6.base I6.hok I6.bare fun b hb => ⟨(f3 b hb).1.2.2.2.1, (f3 b hb).1.2.1, (f3 b hb).1.2.2.2.2.1, (f3 b hb).1.2.2.2.2.2⟩
      have nC : H5 s3.heap.objs.size = none := by
        have z : H5 ce.locals = none := I6.free
        rw [cL] at z
        exact z
      obtain ⟨m, hn, _⟩ := I6.loc
      have hn : s6.heap.Ns ce.locals m := hn
      rw [cL] at hn
      exact hRR D s3.heap.objs.size s6 m H5 I7 qq hn (I3.fpOk (Nat.le_refl _) nC)
    · have ti := T.item (X.blk s3 H3 scope ce fp) rfl rfl rfl hc i [] s5 _ H5 (fun _ _ => False) I5 (stat I5 n5) st5 go
      refine thnF ti fun r s6 ⟨u, hr, h6⟩ => ?_
      subst hr
      refine thnF h6 fun _ s7 ⟨x, H7, I7, r7, y7, st7, n7⟩ => ?_
      have I7' := I7.pinned (stat I7 n7) (T.obj _ _ st7)
      refine thnF (pg _ s7 _ H7 x u _ I7' r7 (step x H7 y7)) fun _ s8 ⟨σ8, H8, I8, hw8, q8⟩ => ?_
      refine thnF (pt _ s8 σ8 H8 _ I8 q8) fun b s9 ⟨H9, I9, q9⟩ => ?_
      have fin : ∀ {s' : Shared} {H' : Hp}, Inv (X.blk s3 H3 scope ce fp) ([] ++ pinsAt fp s7.heap) σ8 H' s' → Nx H' → ∃ m, m < n ∧ ∃ i H', Inv (X.blk s3 H3 scope ce fp) [] (wipe σ (own.map (·.2))) H' s' ∧ tn i s'.heap ∧ (∀ b ∈ fp, H' b = none) ∧ W i m H' := fun {s' H'} I' nx => by
        obtain ⟨m', hm, w'⟩ := hNx H' nx
        have pin' : ∀ b ∈ fp, ∀ o, s7.heap.get? b = some o → s'.heap.get? b = some o ∧ H' b = none := fun b hb o e =>
          let z := I'.pin (b, o) (List.mem_append_right _ (List.mem_append_right _ (mem_pinsAt hb e)))
          ⟨z.1, z.2.1⟩
        have hl : (wipe σ (own.map (·.2))).length = σ8.length := by rw [← hw8, wipe_length]
        refine ⟨m', hm, i + 1, H', (I'.unpinned (pins := [])).weak hl (fun j v e => ?_), T.keep _ _ _ st7 fun b hb o e => (pin' b hb o e).1, fun b hb => ?_, w'⟩
        · rw [← hw8] at e
          exact (wipe_some e).1
        · obtain ⟨o, e, _⟩ := T.obj _ _ st7 b hb
          exact (pin' b hb o e).2
      cases b with
      | false =>
        simp only [Bool.false_eq_true, if_false] at q9 ⊢
        exact fin I9 q9
      | true =>
        simp only [if_true] at q9 ⊢
        refine thnF (pe _ s9 σ8 H9 _ I9 q9) fun z s10 ⟨yv, H10, I10, r10, acc, hD10, hz10, nx⟩ => ?_
        exact app_ok (X := X.blk s3 H3 scope ce fp) I10 hD10 hz10 r10 fun s11 I11 => fin I11 nx
  exact codeAny_compStart_list loop (T.self X.A 0 _ _ _ st4 loop)
theorem pe_lc {elt tg iter : Expr} {ifs : List Expr} {scope : Scope} {own : List (Str × Nat)} {pos : Pos} {wi : TI} {g : TG} {tt : TT} {te : TE} (hc : X.calm = true) (hN : X.N.Nodup) (hi : PI X tg iter wi) (ok : BlkOk X.N X.env.scope scope own)
    (hg : ∀ (s : Shared) (H : Hp) (C : Addr) (cl : List (Str × Addr)) (fp : List Addr), PG (X.blk s H scope (compEnvC scope cl C X.env) fp) tg g) (ht : ∀ (s : Shared) (H : Hp) (C : Addr) (cl : List (Str × Addr)) (fp : List Addr), PTs (X.blk s H scope (compEnvC scope cl C X.env) fp) ifs tt)
    (he : ∀ (s : Shared) (H : Hp) (C : Addr) (cl : List (Str × Addr)) (fp : List Addr), PE (X.blk s H scope (compEnvC scope cl C X.env) fp) elt te) (hs : ∀ x, foldedSetIterable iter X.env x = pure x := by intro _; rfl) :
    PE X (.ListComp elt [⟨tg, iter, ifs, 0⟩] scope pos) (tLc wi g tt te (own.map (·.2))) := by
  intro pins s σ H Q I h
  rw [eval_ListComp]
  refine lc_core hc hN I hi ok hg ht he hs h fun D C s' m H' I' q hn f => ⟨m, hn, fun h'' sb => ?_⟩
  obtain ⟨f0, f1, f2, f3, f4, f5⟩ := f
  exact ⟨.ref D, H', I'.turned (t' := s'.toks) (fun b o hb e => (sb.2 b hb).trans e) f0 f1 f3 f4 f5, rfl, q⟩
end
theorem lc_list {K : PySem.W.Frag} {a : Addr} {xs : List V} {g : TG} {tt : TT} {te : TE} {vs : List Nat} {σ : St} {H1 : Hp} {D : Addr} {Qd : Hp → Prop} (Pv : Nat → Hp → Prop) (h0 : Pv 0 (upd H1 D (.lst []))) (hl : ∀ i H, i ≤ xs.length → Pv i H → SqL K H a xs)
    (hs : ∀ i x H, xs[i]? = some x → Pv i H → g x (wipe σ vs) H fun σ2 H2 => wipe σ2 vs = wipe σ vs ∧ tt σ2 H2 fun b H3 =>
      if b = true then te σ2 H3 fun y H4 => ∃ acc, H4 D = some (.lst acc) ∧ acc.length < sizeLine ∧ Pv (i + 1) (upd H4 D (.lst (acc ++ [y]))) else Pv (i + 1) H3) (hd : ∀ H, Pv xs.length H → Qd H) :
    ∃ W : Nat → Nat → Hp → Prop, (∃ m, W 0 m (upd H1 D (.lst []))) ∧ ∀ i m H, W i m H →
      ((Itl K a).stop i H ∧ Qd H) ∨ ((Itl K a).go i H ∧ ∃ Nx : Hp → Prop, (∀ H', Nx H' → ∃ m', m' < m ∧ W (i + 1) m' H') ∧ ∀ x H', (Itl K a).yld i H x H' → g x (wipe σ vs) H' fun σ2 H2 => wipe σ2 vs = wipe σ vs ∧ tt σ2 H2 fun b H3 =>
        if b = true then te σ2 H3 fun y H4 => ∃ acc, H4 D = some (.lst acc) ∧ acc.length < sizeLine ∧ Nx (upd H4 D (.lst (acc ++ [y]))) else Nx H3) := by
  refine ⟨fun i m H => m = xs.length - i ∧ i ≤ xs.length ∧ Pv i H, ⟨xs.length, by simp, Nat.zero_le _, h0⟩, ?_⟩
  rintro i m H ⟨rfl, hi, p⟩
  have q := hl i H hi p
  by_cases hlt : i < xs.length
  · refine .inr ⟨⟨xs, xs[i], q, by simp [hlt]⟩, Pv (i + 1), fun H' p' => ⟨xs.length - (i + 1), by omega, rfl, hlt, p'⟩, fun x H' y => ?_⟩
    obtain ⟨e, y⟩ := y
    subst e
    exact hs i x _ (y xs q) p
  · have e : i = xs.length := by omega
    subst e
    exact .inl ⟨⟨xs, q, Nat.le_refl _⟩, hd H p⟩
def blkC (N : List Str) (sc scope : Scope) (own : List (Str × Nat)) : Bool :=
  (match scope.kind with | .function => true | _ => false) && (scope.names.all fun y => decide (scope.names.lookup y.1 = some y.2)) && (own.all fun p => decide (N[p.2]? = some p.1)) &&
    (scope.names.all fun y => match y.2 with
      | .free => (match sc.names.lookup y.1 with | some .cell => true | some .free => true | _ => false)
      | .local => decide (y.1 ∈ own.map (·.1)) || decide (y.1 ∉ N)
      | .cell => decide (y.1 ∈ own.map (·.1)) || decide (y.1 ∉ N)
      | _ => true)
theorem blkOk_by {N : List Str} {sc scope : Scope} {own : List (Str × Nat)} (h : blkC N sc scope own = true) : BlkOk N sc scope own := by
  unfold blkC at h
  simp only [Bool.and_eq_true, List.all_eq_true, decide_eq_true_eq] at h
  obtain ⟨⟨⟨h1, h2⟩, h3⟩, h4⟩ := h
  refine ⟨?_, h2, h3, fun y hy e => ?_, fun y hy e => ?_⟩
  · split at h1
    · assumption
    · cases h1
  · have q := h4 y hy
    simp only [e] at q
    split at q <;> first | exact .inl (by assumption) | exact .inr (by assumption) | cases q
  · have q := h4 y hy
    rcases e with e | e <;> (simp only [e, Bool.or_eq_true, decide_eq_true_eq] at q; exact q)
end L2
namespace L2
open PySem PySem.Spec PyProof.Rows
section
variable {prog : Program} {w : World} {A : Around} {R : Result → Shared → Prop} {s : Shared} {elt t0 i0 t1 i1 : Expr} {ifs0 ifs1 : List Expr} {scope : Scope} {pos : Pos} {it acc : Value} {env : Env}
end
section
variable {X : Cx}
end
end L2
namespace L2
open PySem PySem.Spec PyProof.Rows
section
variable {κ : Type} [DecidableEq κ]
def valV (kvs : List (κ × V)) (k : κ) : Option V := (kvs.find? fun kv => decide (kv.1 = k)).map (·.2)
def putK (kvs : List (κ × V)) (k : κ) (v : V) : List (κ × V) :=
  if (kvs.any fun kv => decide (kv.1 = k)) = true then kvs.map (fun kv => if kv.1 = k then (kv.1, v) else kv) else kvs ++ [(k, v)]
theorem valV_pos {p : κ × V} {r : List (κ × V)} {k : κ} (e : p.1 = k) : valV (p :: r) k = some p.2 := by simp [valV, List.find?_cons, e]
theorem valV_neg {p : κ × V} {r : List (κ × V)} {k : κ} (e : ¬ p.1 = k) : valV (p :: r) k = valV r k := by simp [valV, List.find?_cons, e]
theorem valV_any (k : κ) : ∀ kvs : List (κ × V), (kvs.any fun kv => decide (kv.1 = k)) = (valV kvs k).isSome
  | [] => rfl
  | p :: r => by
    rw [List.any_cons]
    by_cases e : p.1 = k
    · simp only [valV_pos e, decide_eq_true e, Bool.true_or, Option.isSome_some]
    · rw [valV_neg e, decide_eq_false e, Bool.false_or]; exact valV_any k r
theorem valV_map (k j : κ) (y : V) : ∀ kvs : List (κ × V), valV (kvs.map fun kv => if kv.1 = k then (kv.1, y) else kv) j = (valV kvs j).map fun x => if j = k then y else x
  | [] => rfl
  | p :: r => by
    have ih := valV_map k j y r
    rw [List.map_cons]
    by_cases h : p.1 = k
    · rw [if_pos h]
      by_cases e : p.1 = j
      · rw [valV_pos (p := (p.1, y)) e, valV_pos e, Option.map_some, if_pos (e.symm.trans h)]
      · rw [valV_neg (p := (p.1, y)) e, valV_neg e, ih]
    · rw [if_neg h]
      by_cases e : p.1 = j
      · rw [valV_pos (p := p) e, valV_pos e, Option.map_some, if_neg (fun z => h (e.trans z))]
      · rw [valV_neg (p := p) e, valV_neg e, ih]
theorem valV_snoc (k j : κ) (y : V) : ∀ kvs : List (κ × V), valV kvs k = none → valV (kvs ++ [(k, y)]) j = if j = k then some y else valV kvs j
  | [], _ => by
    by_cases e : k = j
    · rw [if_pos e.symm]; exact valV_pos (p := (k, y)) e
    · rw [if_neg (fun z => e z.symm)]; exact valV_neg (p := (k, y)) e
  | p :: r, hn => by
    rw [List.cons_append]
    have hk : ¬ p.1 = k := fun z => by rw [valV_pos z] at hn; cases hn
    rw [valV_neg hk] at hn
    have ih := valV_snoc k j y r hn
    by_cases e : p.1 = j
    · rw [valV_pos e, valV_pos e, if_neg (fun z => hk (e.trans z))]
    · rw [valV_neg e, valV_neg e, ih]
theorem valV_put (kvs : List (κ × V)) (k j : κ) (y : V) : valV (putK kvs k y) j = if j = k then some y else valV kvs j := by
  unfold putK
  by_cases a : (kvs.any fun kv => decide (kv.1 = k)) = true
  · rw [if_pos a, valV_map]
    rw [valV_any] at a
    by_cases e : j = k
    · obtain ⟨x, hx⟩ := Option.isSome_iff_exists.mp a
      rw [if_pos e, e, hx, Option.map_some, if_pos rfl]
    · rw [if_neg e]
      cases valV kvs j with
      | none => rfl
      | some x => rw [Option.map_some, if_neg e]
  · rw [if_neg a]
    refine valV_snoc k j y kvs ?_
    rw [valV_any] at a
    cases q : valV kvs k with
    | none => rfl
    | some x => rw [q] at a; exact (a rfl).elim
theorem length_putK (kvs : List (κ × V)) (k : κ) (v : V) : (putK kvs k v).length ≤ kvs.length + 1 := by
  unfold putK
  split
  · rw [List.length_map]; omega
  · rw [List.length_append, List.length_cons, List.length_nil]; omega
theorem putK_new {kvs : List (κ × V)} {k : κ} (v : V) (h : valV kvs k = none) : putK kvs k v = kvs ++ [(k, v)] := by
  unfold putK
  rw [valV_any, h]
  exact if_neg (by decide)
theorem RelO.isSome_eq {o : Option V} {u : Option Value} (r : RelO o u) : o.isSome = u.isSome := by
  cases o with
  | none => cases u with
    | none => rfl
    | some _ => exact (show False from r).elim
  | some _ => cases u with
    | none => exact (show False from r).elim
    | some _ => rfl
theorem RelO.getD {o : Option V} {u : Option Value} {d : V} {d' : Value} (r : RelO o u) (rd : RelV d d') : RelV (o.getD d) (u.getD d') := by
  cases o with
  | none => cases u with
    | none => exact rd
    | some _ => exact (show False from r).elim
  | some _ => cases u with
    | none => exact (show False from r).elim
    | some _ => exact r
theorem KV.val {kvs : List (κ × V)} {vs : List (κ × Value)} (r : KV kvs vs) (k : κ) : RelO (valV kvs k) (valueAt vs k) := by
  unfold KV at r
  induction r with
  | nil => exact True.intro
  | @cons p q ps qs h t ih =>
    obtain ⟨h1, h2⟩ := h
    by_cases e : p.1 = k
    · have e' : q.1 = k := h1.symm.trans e
      have b : valueAt (q :: qs) k = some q.2 := by simp [valueAt, List.find?_cons, e']
      rw [valV_pos e, b]; exact h2
    · have e' : ¬ q.1 = k := fun z => e (h1.trans z)
      have b : valueAt (q :: qs) k = valueAt qs k := by simp [valueAt, List.find?_cons, e']
      rw [valV_neg e, b]; exact ih
theorem KV.any {kvs : List (κ × V)} {vs : List (κ × Value)} (r : KV kvs vs) (k : κ) : (kvs.any fun kv => decide (kv.1 = k)) = vs.any fun kv => decide (kv.1 = k) := by
  unfold KV at r
  induction r with
  | nil => rfl
  | cons h t ih => rw [List.any_cons, List.any_cons, ih, h.1]
theorem KV.repl {kvs : List (κ × V)} {vs : List (κ × Value)} (r : KV kvs vs) (k : κ) {y : V} {u : Value} (ry : RelV y u) :
    KV (kvs.map fun kv => if kv.1 = k then (kv.1, y) else kv) (vs.map fun kv => if kv.1 = k then (kv.1, u) else kv) := by
  unfold KV at r ⊢
  induction r with
  | nil => exact .nil
  | @cons p q ps qs h t ih =>
    rw [List.map_cons, List.map_cons]
    refine .cons ?_ ih
    obtain ⟨h1, h2⟩ := h
    by_cases e : p.1 = k
    · rw [if_pos e, if_pos (h1.symm.trans e)]; exact ⟨h1, ry⟩
    · rw [if_neg e, if_neg (fun z => e (h1.trans z))]; exact ⟨h1, h2⟩
theorem KV.put {kvs : List (κ × V)} {vs : List (κ × Value)} (r : KV kvs vs) (k : κ) {y : V} {u : Value} (ry : RelV y u) : KV (putK kvs k y) (stored vs k u) := by
  unfold putK stored
  rw [r.any k]
  by_cases e : (vs.any fun kv => decide (kv.1 = k)) = true
  · rw [if_pos e, if_pos e]; exact r.repl k ry
  · rw [if_neg e, if_neg e]; exact Paired.snoc r ⟨rfl, ry⟩
theorem KV.length {kvs : List (κ × V)} {vs : List (κ × Value)} (r : KV kvs vs) : kvs.length = vs.length := Paired.length r
end
theorem kV_is {P : Program} {w : World} {k : Key} {u : Value} (r : RelV (kV k) u) : (mixKind P w).is k u = true := by
  cases k with
  | inl i => obtain ⟨t, e⟩ := (show ∃ t, u = Value.int i t from r); subst e; exact mixKind_int P w i t
  | inr x => obtain ⟨t, e⟩ := (show ∃ t, u = Value.str x t from r); subst e; exact mixKind_str P w x t
theorem items_are {P : Program} {w : World} : ∀ {ks : List Key} {us : List Value}, Vals (ks.map kV) us → ItemsAre (mixKind P w) ks us
  | [], _, r => by rw [List.map_nil] at r; cases r; exact .nil
  | k :: ks, _, r => by
    rw [List.map_cons] at r
    cases r with
    | cons h t => exact .cons (kV_is h) (items_are t)
abbrev KT (H : Hp) : List (List Key × V) → List (List Key × Addr × Value) → Prop := Paired fun p q => p.1 = q.1 ∧ H q.2.1 = some (.tup (p.1.map kV)) ∧ RelV p.2 q.2.2
theorem KT.val {H : Hp} {kvs : List (List Key × V)} {xs : List (List Key × Addr × Value)} (r : KT H kvs xs) (k : List Key) : RelO (valV kvs k) ((atKey xs k).map (·.2)) := by
  induction r with
  | nil => exact True.intro
  | @cons p q ps qs h t ih =>
    obtain ⟨h1, _, h2⟩ := h
    by_cases e : p.1 = k
    · have e' : q.1 = k := h1.symm.trans e
      have b : atKey (q :: qs) k = some q.2 := by simp [atKey, List.find?_cons, e']
      rw [valV_pos e, b]; exact h2
    · have e' : ¬ q.1 = k := fun z => e (h1.trans z)
      have b : atKey (q :: qs) k = atKey qs k := by simp [atKey, List.find?_cons, e']
      rw [valV_neg e, b]; exact ih
theorem KT.repl {H : Hp} {kvs : List (List Key × V)} {xs : List (List Key × Addr × Value)} (r : KT H kvs xs) (k : List Key) {y : V} {u : Value} (ry : RelV y u) :
    KT H (kvs.map fun kv => if kv.1 = k then (kv.1, y) else kv) (xs.map (putAt k u)) := by
  induction r with
  | nil => exact .nil
  | @cons p q ps qs h t ih =>
    rw [List.map_cons, List.map_cons]
    refine .cons ?_ ih
    obtain ⟨h1, h2, h3⟩ := h
    unfold putAt
    by_cases e : p.1 = k
    · rw [if_pos e, if_pos (h1.symm.trans e)]; exact ⟨h1, h2, ry⟩
    · rw [if_neg e, if_neg (fun z => e (h1.trans z))]; exact ⟨h1, h2, h3⟩
theorem KT.put {H : Hp} {kvs : List (List Key × V)} {xs : List (List Key × Addr × Value)} (r : KT H kvs xs) (k : List Key) {b : Addr} {y : V} {u : Value} (hb : H b = some (.tup (k.map kV))) (ry : RelV y u) :
    KT H (putK kvs k y) (storedH xs k b u) := by
  have e : (kvs.any fun kv => decide (kv.1 = k)) = (atKey xs k).isSome := by
    rw [valV_any, (r.val k).isSome_eq, Option.isSome_map]
  unfold putK storedH
  rw [e]
  by_cases q : (atKey xs k).isSome = true
  · rw [if_pos q, if_pos q]; exact r.repl k ry
  · rw [if_neg q, if_neg q]; exact Paired.snoc r ⟨rfl, hb, ry⟩
theorem KT.keeps {H H' : Hp} {kvs : List (List Key × V)} {xs : List (List Key × Addr × Value)} (r : KT H kvs xs) (ht : ∀ b ys, H b = some (.tup ys) → H' b = some (.tup ys)) : KT H' kvs xs :=
  Paired.mapP r fun _ _ z => ⟨z.1, ht _ _ z.2.1, z.2.2⟩
section
variable {P : Program} {w : World} {H : Hp} {h : Heap} {a : Addr}
theorem rd_of {u : HO} (ok : HOk P w H h) (e : Rd H a u) : ObjOk P w H h a u := e.ok ok
theorem dk_rd {kvs : List (Key × V)} (ok : HOk P w H h) (e : Rd H a (.dK kvs)) : kvs.length ≤ sizeLine ∧ (a == sysModules) = false ∧ ∃ vs, KV kvs vs ∧ h.DictOf (mixKind P w) a vs :=
  show ObjOk P w H h a (.dK kvs) from rd_of ok e
theorem dk_of {kvs : List (Key × V)} (ok : HOk P w H h) (e : H a = some (.dK kvs)) : kvs.length ≤ sizeLine ∧ (a == sysModules) = false ∧ ∃ vs, KV kvs vs ∧ h.DictOf (mixKind P w) a vs := dk_rd ok (.inl e)
theorem key_of {ks : List Key} (ok : HOk P w H h) (e : H a = some (.tup (ks.map kV))) : (tupleKind (mixKind P w)).is h ks a := by
  obtain ⟨_, its, r, o, h1, h2, n, h3⟩ := (show ObjOk P w H h a (.tup (ks.map kV)) from ok a _ e)
  exact ⟨o, its.toArray, n, h1, h2, h3, by simpa using items_are r⟩
theorem dt_rd {kvs : List (List Key × V)} (ok : HOk P w H h) (e : Rd H a (.dT kvs)) : kvs.length ≤ sizeLine ∧ (a == sysModules) = false ∧
    ∃ xs, KT H kvs xs ∧ h.DictOfH (tupleKind (mixKind P w)) a xs := by
  obtain ⟨z, y, xs, r, o, es, ep, h1, h2, h3, h4, h5⟩ := (show ObjOk P w H h a (.dT kvs) from rd_of ok e)
  refine ⟨z, y, xs, r, o, es, ep, h1, h2, h3, h4, fun x hx => ?_, h5⟩
  have all : ∀ {l : List (List Key × V)} {m : List (List Key × Addr × Value)}, KT H l m → ∀ x ∈ m, (tupleKind (mixKind P w)).is h x.1 x.2.1 := by
    intro l m q
    induction q with
    | nil => intro x hx; exact nomatch hx
    | @cons p q ps qs hq t ih =>
      intro x hx
      rcases List.mem_cons.mp hx with e | hx
      · subst e
        exact key_of ok (by rw [← hq.1]; exact hq.2.1)
      · exact ih x hx
  exact all r x hx
theorem dt_of {kvs : List (List Key × V)} (ok : HOk P w H h) (e : H a = some (.dT kvs)) : kvs.length ≤ sizeLine ∧ (a == sysModules) = false ∧
    ∃ xs, KT H kvs xs ∧ h.DictOfH (tupleKind (mixKind P w)) a xs := dt_rd ok (.inl e)
end
def DGet (H : Hp) (a : Addr) (y : V) (r : Option V) : Prop :=
  (∃ kvs k, Rd H a (.dK kvs) ∧ y = kV k ∧ r = valV kvs k) ∨ ∃ kvs k b, Rd H a (.dT kvs) ∧ y = .ref b ∧ H b = some (.tup (k.map kV)) ∧ r = valV kvs k
def DPut (H : Hp) (a : Addr) (y v : V) (H' : Hp) : Prop :=
  (∃ kvs k, H a = some (.dK kvs) ∧ y = kV k ∧ kvs.length < sizeLine ∧ H' = upd H a (.dK (putK kvs k v))) ∨
  ∃ kvs k b, H a = some (.dT kvs) ∧ y = .ref b ∧ H b = some (.tup (k.map kV)) ∧ kvs.length < sizeLine ∧ H' = upd H a (.dT (putK kvs k v))
theorem DGet.t {H : Hp} {a b : Addr} {kvs : List (List Key × V)} {k : List Key} (e : H a = some (.dT kvs)) (eb : H b = some (.tup (k.map kV))) : DGet H a (.ref b) (valV kvs k) := .inr ⟨kvs, k, b, .inl e, rfl, eb, rfl⟩
theorem DPut.t {H : Hp} {a b : Addr} {kvs : List (List Key × V)} {k : List Key} {v : V} (e : H a = some (.dT kvs)) (eb : H b = some (.tup (k.map kV))) (hl : kvs.length < sizeLine) :
    DPut H a (.ref b) v (upd H a (.dT (putK kvs k v))) := .inr ⟨kvs, k, b, e, rfl, eb, hl, rfl⟩
section
variable {X : Cx} {pins : List (Addr × Obj)} {σ : St} {H : Hp} {s : Shared} {a : Addr} {y v : V} {u r : Value} {o : Option V} {A : Around} {E : Value → Shared → Prop}
theorem Inv.big (I : Inv X pins σ H s) : sysModules < s.heap.objs.size := by
  have h : mainGlobals < s.heap.objs.size := (I.mod.glob.keeps I.bk).lt
  exact Nat.lt_trans (by decide) h
theorem d_notIn {Q : Value → Shared → Prop} (hu : A.units + 1 < cLine) (I : Inv X pins σ H s) (g : DGet H a y o) (ry : RelV y u) (h : ∀ s', Inv X pins σ H s' → Q (.bool (!o.isSome)) s') :
    wpAny (model X.prog X.w) A (compareOp .NotIn u (.ref a)) Q E s := by
  rcases g with ⟨kvs, k, e, ey, l⟩ | ⟨kvs, k, b, e, ey, eb, l⟩
  · subst ey
    obtain ⟨z, hd, vs, rel, dd⟩ := dk_rd I.hok e
    refine wpAny_notIn_of (kV_is ry) hd dd.mapOf ?_
    rw [← (rel.val k).isSome_eq, ← l]
    exact h _ (I.tok _)
  · subst ey
    cases (show u = Value.ref b from ry)
    obtain ⟨z, hd, xs, rel, dd⟩ := dt_rd I.hok e
    refine wpAny_notIn_heap (tupleKind_room_in1 hu) (key_of I.hok eb) hd dd ?_
    have q := (rel.val k).isSome_eq
    rw [Option.isSome_map] at q
    rw [← q, ← l]
    exact h _ (I.tok _)
theorem d_write {h' : Heap} {t' : Nat} {ob : HO} (I : Inv X pins σ H s) (mu : Mut (H a)) (hs : Heap.SameBut a s.heap h') (he : ∃ q, h'.get? a = some q) (new : ObjOk X.prog X.w (upd H a ob) h' a ob) :
    Inv X pins σ (upd H a ob) { s with heap := h', toks := t' } :=
  I.write (x := a) (e := a) mu (.inl rfl) (fun b q hb z => (hs.2 b hb).trans z) he new
theorem dk_new {P : Program} {w : World} {H' : Hp} {h' : Heap} {kvs : List (Key × V)} {vs : List (Key × Value)} (z : kvs.length ≤ sizeLine) (hd : (a == sysModules) = false) (rel : KV kvs vs) (dd : h'.DictOf (mixKind P w) a vs) :
    ObjOk P w H' h' a (.dK kvs) := ⟨z, hd, vs, rel, dd⟩
theorem d_setItem {H' : Hp} {Q : Unit → Shared → Prop} (hu : A.units + 1 < cLine) (I : Inv X pins σ H s) (g : DPut H a y v H') (ry : RelV y u) (rv : RelV v r) (h : ∀ s', Inv X pins σ H' s' → Q () s') :
    wpAny (model X.prog X.w) A (setItem (.ref a) u r) Q E s := by
  rcases g with ⟨kvs, k, e, ey, l, eH⟩ | ⟨kvs, k, b, e, ey, eb, l, eH⟩
  · subst ey eH
    obtain ⟨z, hd, vs, rel, dd⟩ := dk_of I.hok e
    have hz : vs.length ≤ sizeLine := by rw [← rel.length]; exact z
    have hl : (putK kvs k v).length ≤ sizeLine := by have := length_putK kvs k v; omega
    refine wpAny_setItem_pairs (hsz := hz) (kV_is ry) dd fun h' dd' hs => h _ ?_
    have he : ∃ q, h'.get? a = some q := let ⟨q, _, _, hq, _⟩ := dd'; ⟨q, hq⟩
    exact d_write I (by rw [e]; exact True.intro) hs he (dk_new hl hd (rel.put k rv) dd')
  · subst ey eH
    cases (show u = Value.ref b from ry)
    obtain ⟨z, hd, xs, rel, dd⟩ := dt_of I.hok e
    have hz : xs.length ≤ sizeLine := by rw [← Paired.length rel]; exact z
    have hl : (putK kvs k v).length ≤ sizeLine := by have := length_putK kvs k v; omega
    refine wpAny_setItem_heap (hsz := hz) (tupleKind_room_in1 hu) (key_of I.hok eb) dd fun h' dd' hs => h _ ?_
    obtain ⟨q, es, ep, hq, h2, h3, h4, _, h5⟩ := dd'
    refine d_write I (by rw [e]; exact True.intro) hs ⟨q, hq⟩ ⟨hl, hd, _, (rel.put k eb rv).keeps fun c ys ec => ?_, q, es, ep, hq, h2, h3, h4, h5⟩
    rw [upd_ne (ne_of ec e (fun z => nomatch z))]
    exact ec
end
section
variable {X : Cx} {pins : List (Addr × Obj)} {σ : St} {H : Hp} {s : Shared} {a : Addr} {kvs : List (Key × V)} {k : Key} {u : Value} {A : Around} {E : Value → Shared → Prop}
end
def tDNotIn (ty td : TE) : TE := fun σ H Q => ty σ H fun y H1 => td σ H1 fun x H2 => ∃ a o, x = .ref a ∧ DGet H2 a y o ∧ Q (.bl (!o.isSome)) H2
def sDPut (td ty tv : TE) : TS := fun D σ H => tv σ H fun v H1 => td σ H1 fun x H2 => ty σ H2 fun y H3 => ∃ a H4, x = .ref a ∧ DPut H3 a y v H4 ∧ D.nx σ H4
section
variable {X : Cx} {o i e value : Expr} {pos pos' tpos : Pos} {td ty tv : TE}
theorem pc_dnotin (hu : X.A.units + 1 < cLine) (hi : PE X i ty) (ho : PE X o td) : PC X .NotIn i o (tDNotIn ty td) := by
  intro pins s σ H Q I h
  refine thn (hi pins s σ H _ I h) fun iv s1 ⟨y, H1, I1, ry, q1⟩ => thn (ho pins s1 σ H1 _ I1 q1) fun u s2 ⟨x, H2, I2, rx, a, ov, ex, g, q2⟩ => ?_
  subst ex
  obtain rfl : u = Value.ref a := rx
  exact d_notIn hu I2 g ry fun s3 I3 => ⟨.bl (!ov.isSome), H2, I3, rfl, q2⟩
theorem ps_dput (hu : X.A.units + 1 < cLine) (ho : PE X o td) (hi : PE X i ty) (hv : PE X value tv) (hs : swapsWith value (some (.Subscript o i pos')) pos.line X.env = pure false) :
    PS X (.Assign [.Subscript o i pos'] value pos) (sDPut td ty tv) := by
  intro pins s σ H D I h
  refine wpAny_Assign_Subscript (thn (hv pins s σ H _ I h) fun r s1 ⟨v, H1, I1, rv, q1⟩ => thn (ho pins s1 σ H1 _ I1 q1) fun u s2 ⟨x, H2, I2, rx, q2⟩ => thn (hi pins s2 σ H2 _ I2 q2) fun iv s3 ⟨y, H3, I3, ry, a, H4, ex, g, q3⟩ => ?_) hs
  subst ex
  obtain rfl : u = Value.ref a := rx
  exact d_setItem hu I3 g ry rv fun s4 I4 => ⟨σ, H4, I4, q3⟩
end
theorem dt_empty {P : Program} {w : World} {H : Hp} (h : Heap) (hb : sysModules < h.objs.size) : ObjOk P w H (h.push { cls := .type "dict", data := .dict #[] }) h.objs.size (.dT []) :=
  ⟨Nat.zero_le _, beq_eq_false_iff_ne.mpr (Ne.symm (Nat.ne_of_lt hb)), [], .nil, _, #[], 0, Heap.get?_push_size _ rfl, ⟨rfl, rfl, rfl⟩, rfl, rfl, List.nodup_nil⟩
def tDNewT : TE := fun _ H Q => ∀ p, H p = none → Q (.ref p) (upd H p (.dT []))
section
variable {X : Cx} {pos : Pos}
theorem pe_dnewT : PE X (.Dict [] [] pos) tDNewT := fun pins s σ H Q I h =>
  wpAny_Dict_empty ⟨.ref s.heap.objs.size, _, I.laid (a := s.heap.objs.size) (o := .dT []) (t' := s.toks) (fun _ _ q => Heap.get?_push_of_some _ q) (Nat.le_refl _) (dt_empty s.heap I.big), rfl, h _ (I.hok.fresh (Nat.le_refl _))⟩
end
structure M2 (X : Cx) (o : Expr) (m : Str) (apos : Pos) (e f : Expr) (cpos : Pos) : Prop where
  base : attributeBase o m X.env (eval o X.env) = eval o X.env
  few : ((backTo cpos (starEach [e, f] X.env)).all (fun x => !x.1) && (backToKw cpos (keywordEach [] X.env)).all (fun x => x.1.isSome)
    && decide (([e, f] : List Expr).length + ([] : List Keyword).length + (if ([] : List Keyword).isEmpty then 0 else 1) < 30)) = true
  line : (apos.endLine == cpos.line) = true
  trees : backTo cpos (starEach [e, f] X.env) = [(false, eval e X.env), (false, eval f X.env)]
def IsD (H : Hp) (a : Addr) : Prop := (∃ kvs, Rd H a (.dK kvs)) ∨ ∃ kvs, Rd H a (.dT kvs)
theorem isD_at {X : Cx} {pins : List (Addr × Obj)} {σ : St} {H : Hp} {s : Shared} {a : Addr} (I : Inv X pins σ H s) (d : IsD H a) :
    s.TypeIs (.ref a) "dict" ∧ (∀ b, Value.ref a = .ref b → ∃ ob, s.heap.get? b = some ob ∧ ob.dict = none) ∧ (a == sysModules) = false := by
  rcases d with ⟨kvs, e⟩ | ⟨kvs, e⟩
  · obtain ⟨_, hd, vs, _, dd⟩ := dk_rd I.hok e
    refine ⟨dd.typeIs, fun b q => ?_, hd⟩
    cases q
    obtain ⟨ob, _, _, h1, h2, _⟩ := dd
    exact ⟨ob, h1, h2.2.1⟩
  · obtain ⟨_, hd, xs, _, dd⟩ := dt_rd I.hok e
    refine ⟨dd.typeIs, fun b q => ?_, hd⟩
    cases q
    obtain ⟨ob, _, _, h1, h2, _⟩ := dd
    exact ⟨ob, h1, h2.2.1⟩
section
variable {X : Cx} {pins : List (Addr × Obj)} {σ : St} {H : Hp} {s : Shared} {a : Addr} {y d : V} {u r : Value} {o : Option V} {A : Around} {E : Value → Shared → Prop}
theorem d_get2 {Q : Value → Shared → Prop} (hu : A.units + 1 < cLine) (I : Inv X pins σ H s) (g : DGet H a y o) (ry : RelV y u) (rd : RelV d r) (h : ∀ w' s', Inv X pins σ H s' → RelV (o.getD d) w' → Q w' s') :
    wpAny (model X.prog X.w) A (call (.builtin "dict.get") [.ref a, u, r]) Q E s := by
  rcases g with ⟨kvs, k, e, ey, l⟩ | ⟨kvs, k, b, e, ey, eb, l⟩
  · subst ey
    obtain ⟨z, hd, vs, rel, dd⟩ := dk_rd I.hok e
    refine call_meetsIn PySem.F.slot_dict_get dd.typeIs PySem.F.entry_dict_get (PySem.F.args_dict_get_3 _ _ _) (meets_dict_get_default (mixKind X.prog X.w) a (kV_is ry) hd r) ⟨_, dd.mapOf, h _ _ (I.tok _) ?_⟩
    rw [l]
    exact (rel.val k).getD rd
  · subst ey
    cases (show u = Value.ref b from ry)
    obtain ⟨z, hd, xs, rel, dd⟩ := dt_rd I.hok e
    refine call_meetsIn PySem.F.slot_dict_get dd.typeIs PySem.F.entry_dict_get (PySem.F.args_dict_get_3 _ _ _) (meetsH_dict_get_default (tupleKind (mixKind X.prog X.w)) a b hd r) ⟨tupleKind_room_in1 hu, k, xs, key_of I.hok eb, dd, h _ _ (I.tok _) ?_⟩
    rw [l]
    exact (rel.val k).getD rd
end
def tDGet2 (td ty tx : TE) : TE := fun σ H Q => td σ H fun x H1 => ∃ a, x = .ref a ∧ IsD H1 a ∧ ty σ H1 fun y H2 => tx σ H2 fun z H3 => ∃ o, DGet H3 a y o ∧ Q (o.getD z) H3
section
variable {X : Cx} {o e f : Expr} {apos cpos : Pos} {td ty tx : TE}
theorem pe_dget2 (hu : X.A.units + 1 < cLine) (ho : PE X o td) (he : PE X e ty) (hf : PE X f tx) (m : M2 X o "get" apos e f cpos) : PE X (.Call (.Attribute o "get" apos) [e, f] [] cpos) (tDGet2 td ty tx) := by
  intro pins s σ H Q I h
  refine wpAny_Call_method m.base m.few m.line PySem.F.plainAttrs_dict PySem.F.slot_dict_get PySem.F.type_dict_get (thn (ho pins s σ H _ I h) fun u s1 ⟨x, H1, I1, rx, a, ex, d, q1⟩ => ?_)
  subst ex
  obtain rfl : u = Value.ref a := rx
  obtain ⟨t1, t2, _⟩ := isD_at I1 d
  refine ⟨t1, t2, ?_⟩
  rw [m.trees]
  refine Calls.callWith_builtin rfl (Calls.evalArgs_plain (Calls.spliced_cons (thn (he pins s1 σ H1 _ I1 q1) fun iv s2 ⟨y, H2, I2, ry, q2⟩ =>
    Calls.spliced_cons (thn (hf pins s2 σ H2 _ I2 q2) fun fv s3 ⟨z, H3, I3, rz, ov, g, q3⟩ => Calls.spliced_nil ?_))))
  exact d_get2 hu I3 g ry rz fun w' s4 I4 rw' => ⟨_, H3, I4, rw', q3⟩
end
section
variable {X : Cx} {pins : List (Addr × Obj)} {σ : St} {H : Hp} {s : Shared} {a : Addr} {kvs : List (Key × V)} {A : Around} {E : Value → Shared → Prop}
end
section
variable {X : Cx} {pins : List (Addr × Obj)} {σ : St} {H : Hp} {s : Shared} {a : Addr} {y : V} {u : Value} {A : Around} {E : Value → Shared → Prop}
end
end L2
namespace L2
open PySem PySem.Spec PyProof.Rows
section
variable {prog : Program} {w : World} {A : Around} {E : Value → Shared → Prop}
end
section
variable {X : Cx}
end
end L2
namespace L2
open PySem PySem.Spec PyProof.Rows
section
variable {X : Cx} {pins : List (Addr × Obj)} {σ : St} {H : Hp} {s : Shared} {h' : Heap}
theorem Inv.turnedL {t' : Nat} {ch : List Addr} (I : Inv X pins σ H s) (k : ∀ b o, b ∉ ch → s.heap.get? b = some o → h'.get? b = some o) (hf : ∀ b ∈ ch, FpOk X pins H b) : Inv X pins σ H { s with heap := h', toks := t' } := by
  have nit : ∀ b u, H b = some u → b ∉ ch := fun b u e z => by
    have q := (hf b z).1
    rw [q] at e; cases e
  refine I.step (g' := s.gens) (d' := s.drawn) (ch := ch) (fun b hb => ⟨(hf b hb).2.2.2.1, (hf b hb).2.1, (hf b hb).2.2.2.2.1, (hf b hb).2.2.2.2.2⟩) (fun b o _ _ hc e _ => k b o hc e) (fun b o _ _ hc e _ => ⟨o.slots, k b o hc e⟩)
    (fun _ _ _ _ n => n) (fun b o hc e => ⟨o, k b o hc e⟩) (fun _ _ e => e) (fun _ _ _ e => e) (fun b ps e => ⟨#[], by rw [e]; simp⟩) (fun m hm => ?_) (fun b u e => ?_) I.bare
  · obtain ⟨o, es, ep, ho, r⟩ := hm
    exact ⟨o, es, ep, k _ o (fun z => (hf _ z).2.1 rfl) ho, r⟩
  · refine (I.hok b u e).stay (fun c v hc q => k c v ?_ q) (fun _ q => q) fun _ _ q => q
    rcases hc with z | z
    · rw [z]; exact nit b u e
    · exact nit c _ z
theorem Inv.turnedNew {t' : Nat} {ch : List Addr} {T : Addr} {ob : HO} (I : Inv X pins σ H s) (k : ∀ b o, b ∉ ch → s.heap.get? b = some o → h'.get? b = some o) (hf : ∀ b ∈ ch, FpOk X pins H b) (hT : s.heap.objs.size ≤ T)
    (new : ObjOk X.prog X.w (upd H T ob) h' T ob) : Inv X pins σ (upd H T ob) { s with heap := h', toks := t' } := by
  have hn : H T = none := I.hok.fresh hT
  have nit : ∀ b u, H b = some u → b ∉ ch := fun b u e z => by
    have q := (hf b z).1
    rw [q] at e; cases e
  refine I.step (g' := s.gens) (d' := s.drawn) (ch := ch) (fun b hb => ⟨(hf b hb).2.2.2.1, (hf b hb).2.1, (hf b hb).2.2.2.2.1, (hf b hb).2.2.2.2.2⟩) (fun b o _ _ hc e _ => k b o hc e) (fun b o _ _ hc e _ => ⟨o.slots, k b o hc e⟩)
    (fun b o _ e n => ?_) (fun b o hc e => ⟨o, k b o hc e⟩) (fun b xs e => ?_) (fun b o u e => ?_) (fun b ps e => ⟨#[], ?_⟩) (fun m hm => ?_) (fun b u e => ?_) I.bare
  · rw [upd_ne (Nat.ne_of_lt (Nat.lt_of_lt_of_le (Heap.lt_size e) hT))]; exact n
  · rw [upd_ne (ne_of_none e hn)]; exact e
  · rw [upd_ne (ne_of_none e hn)]; exact e
  · rw [upd_ne (ne_of_none e hn), e]; simp
  · obtain ⟨o, es, ep, ho, r⟩ := hm
    exact ⟨o, es, ep, k _ o (fun z => (hf _ z).2.1 rfl) ho, r⟩
  · by_cases hb : b = T
    · subst hb
      rw [upd_same] at e
      cases e
      exact new
    · rw [upd_ne hb] at e
      refine (I.hok b u e).stay (fun c v hc q => k c v ?_ q) (fun c q => by rw [upd_ne (ne_of_none q hn)]; exact q) fun c xs q => by rw [upd_ne (ne_of_none q hn)]; exact q
      rcases hc with z | z
      · rw [z]; exact nit b u e
      · exact nit c _ z
end
section
variable {X : Cx}
end
section
variable {X : Cx} {tg : Expr}
end
section
variable {X : Cx} {tg : Expr}
end
section
variable {prog : Program} {w : World} {A : Around} {E : Value → Shared → Prop} {s : Shared}
end
section
variable {X : Cx} {pins : List (Addr × Obj)} {σ : St} {H : Hp} {s : Shared} {d : Addr} {o : Obj}
end
section
variable {P : Program} {w : World} {K : PySem.W.Frag} {tg : Expr} {d : Addr} {o : Obj} {es : Array DictEntry} {ep : Nat}
end
section
variable {X : Cx} {tg e : Expr} {td : TE} {apos cpos : Pos}
end
theorem boot_zip5 : bootBuiltins "zip" = some (.type "zip") := by decide +kernel
def Itz (K : PySem.W.Frag) (a b : Addr) : It :=
  ⟨fun i H => ∃ (xs ys : List V) (x y : V), SqL K H a xs ∧ SqL K H b ys ∧ xs[i]? = some x ∧ ys[i]? = some y,
    fun i H v H' => ∃ T x y, v = .ref T ∧ H T = none ∧ H' = upd H T (.tup [x, y]) ∧ (∀ xs, SqL K H a xs → xs[i]? = some x) ∧ ∀ ys, SqL K H b ys → ys[i]? = some y,
    fun i H => ∃ xs ys : List V, SqL K H a xs ∧ SqL K H b ys ∧ (xs.length ≤ i ∨ ys.length ≤ i)⟩
theorem turn_zip {P : Program} {w : World} {K : PySem.W.Frag} {elts : List Expr} {kk : Nat} {tpos : Pos} {a b z TI TO i1 i2 : Addr} (D : ZipApart z TI TO i1 i2 a b) :
    Turn P w K (.Tuple elts kk tpos) (Itz K a b) [z, TI, TO, i1, i2] z (fun i h => IsZip h z TI TO .none ∧ IsPair h TI (.ref i1) (.ref i2) ∧ (∃ x y, IsPair h TO x y) ∧ h.IsListIter i1 a i ∧ h.IsListIter i2 b i) where
  mem := by simp
  obj := fun i h st c hc => by
    obtain ⟨hz, hTI, ⟨x, y, hTO⟩, ⟨o1, e1, _, d1⟩, ⟨o2, e2, _, d2⟩⟩ := st
    have e' : c = z ∨ c = TI ∨ c = TO ∨ c = i1 ∨ c = i2 := by simpa using hc
    rcases e' with q | q | q | q | q
    · rw [q]; exact ⟨_, hz, fun v q => nomatch q⟩
    · rw [q]; exact ⟨_, hTI, fun v q => nomatch q⟩
    · rw [q]; exact ⟨_, hTO, fun v q => nomatch q⟩
    · rw [q]; exact ⟨o1, e1, fun v q => by rw [d1] at q; cases q⟩
    · rw [q]; exact ⟨o2, e2, fun v q => by rw [d2] at q; cases q⟩
  keep := fun i h h' st k => by
    obtain ⟨hz, hTI, ⟨x, y, hTO⟩, h1, h2⟩ := st
    exact ⟨k z (by simp) _ hz, k TI (by simp) _ hTI, ⟨x, y, k TO (by simp) _ hTO⟩, h1.at fun o q => k i1 (by simp) o q, h2.at fun o q => k i2 (by simp) o q⟩
  item := by
    intro X hP hw hK hc i pins s σ H E I hf st hg
    subst hP hw hK
    obtain ⟨hz, hTI, ⟨x0, y0, hTO⟩, h1, h2⟩ := st
    obtain ⟨xs, ys, x, y, hqx, hqy, hx, hy⟩ := hg
    obtain ⟨its, rv, p, _⟩ := I.list hqx
    obtain ⟨its2, rv2, p2, _⟩ := I.list hqy
    obtain ⟨u, hu, ru⟩ := rv.get hx
    obtain ⟨u2, hu2, ru2⟩ := rv2.get hy
    have hzl : z < s.heap.objs.size := Heap.lt_size hz
    refine wpAny_pyNext_zip_item D hz hTI hTO h1 h2 p.isList p2.isList (x := u) (y := u2) (by simpa using hu) (by simpa using hu2) fun h' z' TO' h1' h2' hT hsz hk => ?_
    refine ⟨_, rfl, wpAny_letOwnedTupleGo_zip (s := { s with heap := h' }) z' fun h'' z'' sb => ?_⟩
    have hT2 : h''.get? s.heap.objs.size = some { cls := .type "tuple", data := .seq #[u, u2] } := (sb.2 _ (Nat.ne_of_gt hzl)).trans hT
    have new : ObjOk X.prog X.w (upd H s.heap.objs.size (.tup [x, y])) h'' s.heap.objs.size (.tup [x, y]) :=
      ⟨by show 2 ≤ sizeLine; decide, [u, u2], .cons ru (.cons ru2 .nil), ⟨_, hT2, rfl, _, rfl⟩⟩
    have I1 : Inv X pins σ (upd H s.heap.objs.size (.tup [x, y])) { s with heap := h'' } :=
      I.turnedNew (t' := s.toks) (ch := [z, TI, TO, i1, i2]) (fun c o hb q => (sb.2 c (fun q' => hb (by simp [q']))).trans (hk c o (fun q' => hb (by simp [q'])) (fun q' => hb (by simp [q'])) (fun q' => hb (by simp [q'])) (fun q' => hb (by simp [q'])) q)) hf (Nat.le_refl _) new
    refine ⟨.ref s.heap.objs.size, _, I1, rfl, ⟨_, x, y, rfl, I.hok.fresh (Nat.le_refl _), rfl, fun l hl => by rw [I.list_inj hl hqx]; exact hx, fun l hl => by rw [I.list_inj hl hqy]; exact hy⟩, ⟨z'', ?_, ⟨u, u2, ?_⟩, ?_, ?_⟩, fun c hcm => ?_⟩
    · exact (sb.2 _ D.TIz).trans (hk _ _ D.TIz D.TITO D.TIi1 D.TIi2 hTI)
    · exact (sb.2 _ D.TOz).trans TO'
    · exact h1'.at fun o q => (sb.2 _ D.i1z).trans q
    · exact h2'.at fun o q => (sb.2 _ D.i2z).trans q
    · have hlt : c < s.heap.objs.size := by
        have e' : c = z ∨ c = TI ∨ c = TO ∨ c = i1 ∨ c = i2 := by simpa using hcm
        rcases e' with q | q | q | q | q
        · rw [q]; exact hzl
        · rw [q]; exact Heap.lt_size hTI
        · rw [q]; exact Heap.lt_size hTO
        · rw [q]; obtain ⟨_, e1, _⟩ := h1; exact Heap.lt_size e1
        · rw [q]; obtain ⟨_, e2, _⟩ := h2; exact Heap.lt_size e2
      rw [upd_ne (Nat.ne_of_lt hlt)]
      exact (hf c hcm).1
  done := by
    intro X hP hw hK hc i pins s σ H E I hf st hg
    subst hP hw hK
    obtain ⟨hz, hTI, ⟨x0, y0, hTO⟩, h1, h2⟩ := st
    obtain ⟨xs, ys, hqx, hqy, hend⟩ := hg
    obtain ⟨its, rv, p, _⟩ := I.list hqx
    obtain ⟨its2, rv2, p2, _⟩ := I.list hqy
    have l1 := rv.length
    have l2 := rv2.length
    have he : its.toArray[i]? = none ∨ its2.toArray[i]? = none := by
      rcases hend with q | q
      · exact .inl (by simp; omega)
      · exact .inr (by simp; omega)
    exact wpAny_pyNext_zip_end (I.ok.hd hc) D hz hTI hTO h1 h2 p.isList p2.isList he fun h' hk => ⟨rfl, I.turnedL (t' := s.toks) (ch := [z, TI, TO, i1, i2]) (fun c o hb q =>
      hk c o (fun q' => hb (by simp [q'])) (fun q' => hb (by simp [q'])) (fun q' => hb (by simp [q'])) (fun q' => hb (by simp [q'])) q) hf⟩
  self := fun A i s Q E st h => wpAny_pyIter_zip st.1 h
def iZip (K : PySem.W.Frag) (ta : TA) : TI := fun σ H R => ta σ H fun vs H1 => ∃ a b xs ys, vs = [.ref a, .ref b] ∧ SqL K H1 a xs ∧ SqL K H1 b ys ∧ R (Itz K a b) H1
theorem pi_zip {X : Cx} {e e2 : Expr} {ta : TA} {p pos tpos : Pos} {elts : List Expr} {kk : Nat} (hg : Gl X "zip") (hm : X.mg "zip" = none) (ha : PA X [e, e2] ta)
    (hs : starEach [e, e2] X.env = (false, eval e X.env) :: starEach [e2] X.env := by rfl) (hpl : (backTo pos (starEach [e2] X.env)).any (·.1) = false := by rfl) :
    PI X (.Tuple elts kk tpos) (.Call (.Name "zip" p) [e, e2] [] pos) (iZip X.K ta) := by
  intro pins s σ H R I h
  refine Call_ (ld_blt I hg hm boot_zip5 (PyProof.Rows.callWith_type1 (thn (ha pos pins s σ H _ I h) fun us s1 ⟨vs, H1, I1, r1, q1⟩ => ?_) hs hpl))
  obtain ⟨a, b, xs, ys, ex, hqx, hqy, q⟩ := q1
  subst ex
  cases r1 with
  | cons r rr =>
    cases rr with
    | cons r' rr =>
      cases rr
      cases r
      cases r'
      obtain ⟨its, rv, p1, _⟩ := I1.list hqx
      obtain ⟨its2, rv2, p2, _⟩ := I1.list hqy
      have la : a < s1.heap.objs.size := p1.lt
      have lb : b < s1.heap.objs.size := p2.lt
      refine call_zip_2 p1.isList p2.isList fun h' hz hTI hTO h1 h2 hsz hk => wpAny_pyIter_zip hz ?_
      have I2 : Inv X pins σ H1 { s1 with heap := h' } := I1.kept (t' := s1.toks) hk
      refine ⟨s1.heap.objs.size + 4, [s1.heap.objs.size + 4, s1.heap.objs.size + 2, s1.heap.objs.size + 3, s1.heap.objs.size, s1.heap.objs.size + 1], _, _, H1, rfl, I2, turn_zip (PySem.W.ktu_apart s1.heap.objs.size a b la lb), ⟨hz, hTI, ⟨_, _, hTO⟩, h1, h2⟩, fun c hcm => ?_, q⟩
      have e' : c = s1.heap.objs.size + 4 ∨ c = s1.heap.objs.size + 2 ∨ c = s1.heap.objs.size + 3 ∨ c = s1.heap.objs.size ∨ c = s1.heap.objs.size + 1 := by simpa using hcm
      have hle : s1.heap.objs.size ≤ c := by
        rcases e' with z | z | z | z | z
        · rw [z]; exact Nat.le_add_right _ _
        · rw [z]; exact Nat.le_add_right _ _
        · rw [z]; exact Nat.le_add_right _ _
        · rw [z]; exact Nat.le_refl _
        · rw [z]; exact Nat.le_add_right _ _
      exact I1.fpOk hle (I1.hok.fresh hle)
end L2
section 
namespace Bits
open PySem PyProof.Rows
end Bits
end 
section 
namespace TL
open PySem PySem.Builtin PySem.Builtin.Str PySem.StrLaws
end TL
end 
namespace L2
open PySem PySem.Spec PyProof.Rows
section
variable {X : Cx} {pins : List (Addr × Obj)} {σ : St} {H : Hp} {s : Shared} {Q : VK}
end
section
variable {X : Cx}
end
section
variable {X : Cx} {o e : Expr} {to te : TE}
end
end L2
namespace L2
open PySem PySem.Spec PyProof.Rows
section
variable {X : Cx}
end
end L2
namespace Att
open PySem PySem.W PySem.Calls PyProof.Rows
section
variable {prog : Program} {w : World} {A : Around} {E : Value → Shared → Prop} {s : Shared} {K : Frag}
end
end Att
namespace L2
open PySem PySem.Spec PyProof.Rows
end L2
namespace L2
open PySem PySem.Spec PyProof.Rows
end L2
/- THE LAST THEOREM (shape; LID, My.* are yours):
   My.Adr: a structure of the addresses that your layer names (classes, functions); My.Txt K t: a structure (Prop) of the equations over K;
   My.txt_mk : {K} {implicit addresses ..} (e1 : nsIn K mainGlobals "law" = some (some (.ref f))) (e2 : K.lookup f = some ⟨oc, od, .func (fnOf "law" "law" params body scope dV kV doc pm an cdv ct), sl⟩) (e3 : codeIn K cdv "law" = true) .. : ∃ t, My.Txt K t
set_option maxRecDepth 100000 in
set_option maxHeartbeats 0 in
theorem PySem.Challenge.cw_LID_holds : PySem.Challenge.rw_LID.Holds := by
  w_on; o_law; k_head; (case hw => w_witness2)
  k_fill
  refine L2.walk_of (l := PySem.Challenge.rw_LID) (n := 63) (k := 40) (x := "script") (CX := fun w => ..) (sp := fun _ => My.sp_law) rfl (by decide) rfl ⟨rfl, by decide, by decide⟩ (fun w h Y => PySem.W.kIn_of Y) ?F ?S ?C
  case F =>
    intro w mg fa h KX G hmg
    have T : ∃ t, My.Txt (L2.KOf KX) t := by
      dsimp only [L2.KOf]                          -- K must stand as «<heap const> w.params» for k_is
      refine' My.txt_mk ?e1 ?e2 ?e3 ..
      (case e1 => PySem.W.k_is)                    -- in the order: a name -> its address -> its object -> its parts
      (case e2 => PySem.W.k_is)
      ..
    obtain ⟨t, T⟩ := T
    have e0 := hmg.symm.trans (PySem.W.mg_of KX G T.law)
    cases e0                                       -- fa is the law's own address
    exact ⟨_, fun s u => .of_eq rfl, fun base kb nb => My.law_fn T kb nb⟩     -- if «.of_eq rfl» comes too early: refine' ⟨_, ?b, fun base kb nb => My.law_fn T kb nb⟩; exact fun s u => .of_eq rfl
  case S => exact fun w H a ns hl hO hS => ..
  case C => exact ..
(the tactic k_is has no namespace: write k_is) -/
namespace L2
open PySem PySem.Spec PyProof.Rows
def inClass (s : Stmt) (j : Nat) : Stmt := match s with
  | .ClassDef _ _ _ body _ _ _ _ _ _ _ => body.getD j (.Pass ⟨0, 0, 0, 0⟩)
  | _ => .Pass ⟨0, 0, 0, 0⟩
def defArgs (s : Stmt) : Arguments := match s with
  | .FunctionDef _ a _ _ _ _ _ _ _ _ => a
  | _ => { posonlyargs := [], args := [], vararg := none, kwonlyargs := [], kw_defaults := [], kwarg := none, defaults := [] }
def defBody (s : Stmt) : List Stmt := match s with
  | .FunctionDef _ _ b _ _ _ _ _ _ _ => b
  | _ => []
def defScope (s : Stmt) : Scope := match s with
  | .FunctionDef _ _ _ _ _ _ sc _ _ _ => sc
  | _ => { kind := .function, names := [], isGenerator := false, isCoroutine := false }
abbrev CX0 : CXT := fun _ _ _ _ _ _ => False
abbrev E0 : XK := fun _ _ _ => False
theorem pass0 {X : Cx} : Passes CX0 X E0 := fun _ _ _ _ _ _ _ h => h.elim
structure Fun (K : PySem.W.Frag) (x qual : Str) (st : Stmt) (f : Addr) (fd : FuncData) : Prop where
  ex : ∃ (oc : Value) (od : Option Addr) (kV doc pm : Value) (an : Option Addr) (cdv ct : Value) (osl : Array (Option Value)),
    fd = PySem.W.fnOf x qual (defArgs st) (defBody st) (defScope st) .none kV doc pm an cdv ct ∧ K.lookup f = some ⟨oc, od, .func fd, osl⟩ ∧ PySem.W.codeIn K cdv qual = true
  kp : PySem.W.keepIn K (.ref f) = true
section
variable {P : Program} {w : World} {K : PySem.W.Frag} {mg : Str → Option Value} {base : Heap}
theorem Fun.ok {x qual : Str} {st : Stmt} {f : Addr} {fd : FuncData} {N ps : List Str} {k : Nat} {sp : Sp} (F : Fun K x qual st f fd) (S : FnScope N ps (defScope st)) (len : ∀ vs H Q E, sp vs H Q E → vs.length = ps.length)
    (hbody : ∀ (cdv : Value) (A : Around) (outer : List Env) (s : Shared) (H : Hp) (vs : List V) (Q : VK) (E : XK), Room k (A.deeper (envOfC qual (defScope st) s.heap.objs.size f cdv)) → sp vs H Q E →
      ∃ t, PSs (cxOf CX0 P w K mg base N qual (defScope st) f cdv A outer s H E).nox (defBody st) t ∧ t { nx := fun _ H' => Q .non H', rt := Q } (start N vs) H) : FnOk P w K mg base CX0 (k + 1) f fd ps sp := by
  obtain ⟨oc, od, kV, doc, pm, an, cdv, ct, osl, rfl, lk, hcd⟩ := F.ex
  refine fn_of lk hcd S len fun A outer s H vs Q E hr hsp => ?_
  obtain ⟨t, h, q⟩ := hbody cdv A outer s H vs Q E hr hsp
  exact ⟨t, h.nox, q⟩
theorem Fun.binds {x qual : Str} {st : Stmt} {f : Addr} {fd : FuncData} {ps : List Str} (F : Fun K x qual st f fd)
    (h : ∀ (kV doc pm : Value) (an : Option Addr) (cdv ct : Value) (us : List Value), us.length = ps.length → bindArgs (PySem.W.fnOf x qual (defArgs st) (defBody st) (defScope st) .none kV doc pm an cdv ct) ⟨us, []⟩ = pure (ps.zip us)) : Binds K fd ps [] := by
  obtain ⟨oc, od, kV, doc, pm, an, cdv, ct, osl, rfl, lk, hcd⟩ := F.ex
  exact .all (h kV doc pm an cdv ct)
theorem fun_mk {x qual : Str} {st : Stmt} {f : Addr} {oc : Value} {od an : Option Addr} {osl : Array (Option Value)} {kV doc pm cdv ct : Value} (l : K.lookup f = some ⟨oc, od, .func (PySem.W.fnOf x qual (defArgs st) (defBody st) (defScope st) .none kV doc pm an cdv ct), osl⟩)
    (c : PySem.W.codeIn K cdv qual = true) (k : PySem.W.keepIn K (.ref f) = true) : Fun K x qual st f (PySem.W.fnOf x qual (defArgs st) (defBody st) (defScope st) .none kV doc pm an cdv ct) := ⟨⟨oc, od, kV, doc, pm, an, cdv, ct, osl, rfl, l, c⟩, k⟩
end
theorem hu_of {A : Around} {k : Nat} (hr : Room k A) : A.units + 1 < cLine := Nat.lt_of_le_of_lt (Nat.add_le_add_left (by decide : 1 ≤ 64) _) hr.units
section
variable {X : Cx}
theorem pv (i : Nat) {x : Str} {pos : Pos} (hN : X.N[i]? = some x := by rfl) (hv : Vis X.env.scope x := by first | exact Or.inl rfl | exact Or.inr (Or.inl rfl) | exact Or.inr (Or.inr rfl)) (hd : (x == ("__debug__" : Str)) = false := by decide)
    (hcd : (x == ("__classdict__" : Str)) = false := by decide) : PE X (.Name x pos) (tVar i) := pe_var hN hv hd hcd
end
theorem iteF {A B : Prop} (h : B) : if false = true then A else B := by
  rw [if_neg Bool.false_ne_true]
  exact h
theorem iteT {A B : Prop} (h : A) : if true = true then A else B := by
  rw [if_pos rfl]
  exact h
theorem ite2 {c A B : Prop} [Decidable c] (h1 : c → A) (h2 : ¬ c → B) : if c then A else B := by
  by_cases h : c
  · rw [if_pos h]
    exact h1 h
  · rw [if_neg h]
    exact h2 h
def Same (H H' : Hp) : Prop := ∀ b o, H b = some o → H' b = some o
theorem Same.refl (H : Hp) : Same H H := fun _ _ h => h
theorem Same.trans {H H1 H2 : Hp} (a : Same H H1) (b : Same H1 H2) : Same H H2 := fun c o h => b c o (a c o h)
theorem Same.free {H H' : Hp} (e : Same H H') {l : Addr} (h : H' l = Option.none) : H l = Option.none := by
  cases q : H l with
  | none => rfl
  | some o =>
    rw [e l o q] at h
    cases h
theorem Same.seq {K : PySem.W.Frag} {H H' : Hp} {a : Addr} {xs : List V} (e : Same H H') (h : SqL K H a xs) : SqL K H' a xs := by
  rcases h with (h | ⟨o, h⟩) | h
  · exact .inl (.inl (e _ _ h))
  · exact .inl (.inr ⟨o, e _ _ h⟩)
  · exact .inr h
section
variable {κ : Type} [DecidableEq κ]
end
theorem at_of {xs : List V} {z : Int} {j : Nat} {v : V} (e : z = (j : Int)) (h : xs[j]? = some v) : atI xs z = some v := by
  rw [e]
  exact atI_nat h
theorem nd_ix {α : Type} {l : List α} (hN : l.Nodup) {i j : Nat} {x : α} (a : l[i]? = some x) (b : l[j]? = some x) : i = j := by
  obtain ⟨h1, e1⟩ := List.getElem?_eq_some_iff.mp a
  obtain ⟨h2, e2⟩ := List.getElem?_eq_some_iff.mp b
  exact (List.getElem_inj hN).mp (e1.trans e2.symm)
end L2
section
set_option Elab.async false
set_option linter.all false
set_option maxRecDepth 100000
set_option maxHeartbeats 2000000
namespace L2
open PySem PySem.Spec PyProof.Rows
open PySem.W (WData Codec OpenSpec Well WellAll ReadsW ReadsAllW)
mutual
inductive Dw (K : PySem.W.Frag) (H : Hp) : V → WData → Prop
  | non : Dw K H .non .none
  | bl (b : Bool) : Dw K H (.bl b) (.bool b)
  | int (i : Int) : Dw K H (.int i) (.int i)
  | str (x : Str) : Dw K H (.str x) (.str x)
  | byt (b : Array UInt8) : Dw K H (.byt b) (.bytes b.toList)
  | lst {a : Addr} {xs : List V} {ds : List WData} : SqL K H a xs → DwAll K H xs ds → Dw K H (.ref a) (.list ds)
  | tup {a : Addr} {xs : List V} {ds : List WData} : SqT K H a xs → DwAll K H xs ds → Dw K H (.ref a) (.tuple ds)
inductive DwAll (K : PySem.W.Frag) (H : Hp) : List V → List WData → Prop
  | nil : DwAll K H [] []
  | cons {v : V} {vs : List V} {d : WData} {ds : List WData} : Dw K H v d → DwAll K H vs ds → DwAll K H (v :: vs) (d :: ds)
end
theorem dw_ints {K : PySem.W.Frag} {H : Hp} : ∀ ns : List Int, DwAll K H (ns.map V.int) (ns.map WData.int)
  | [] => .nil
  | n :: r => .cons (.int n) (dw_ints r)
theorem ints_dw {K : PySem.W.Frag} {H : Hp} : ∀ (ns : List Int) (xs : List V), DwAll K H xs (ns.map WData.int) → xs = ns.map V.int
  | [], xs, h => by
    cases h
    rfl
  | n :: r, xs, h => by
    cases h with
    | cons h1 h2 =>
      cases h1
      rw [ints_dw r _ h2] <;> rfl
section
variable {P : Program} {w : World} {K : PySem.W.Frag} {H : Hp} {h : Heap} {R : PySem.W.WRecords} {cl : Str → Option Addr}
theorem sqL_at {a : Addr} {xs : List V} (hok : HOk P w H h) (KX : K.In h) (q : SqL K H a xs) : ∃ (its : List Value) (o : Obj) (n : Nat), Vals xs its ∧ h.get? a = some o ∧ o.cls = .type "list" ∧ o.data = .seq its.toArray n := by
  rcases q with q | ⟨o, its, n, e, hc, _, hd, _, hv⟩
  · obtain ⟨_, its, n, hv, e⟩ := (show ObjOk P w H h a (.lst xs) from q.ok hok)
    exact ⟨its, _, n, hv, e, rfl, rfl⟩
  · exact ⟨its.toList, o, n, hv, KX _ _ e, hc, by simp [hd]⟩
theorem sqT_at {a : Addr} {xs : List V} (hok : HOk P w H h) (KX : K.In h) (q : SqT K H a xs) : ∃ (its : List Value) (o : Obj) (n : Nat), Vals xs its ∧ h.get? a = some o ∧ o.cls = .type "tuple" ∧ o.data = .seq its.toArray n := by
  rcases q with q | ⟨o, its, n, e, hc, hd, _, hv⟩
  · obtain ⟨_, its, hv, o, e, hc, n, hd⟩ := (show ObjOk P w H h a (.tup xs) from q.ok hok)
    exact ⟨its, o, n, hv, e, hc, hd⟩
  · exact ⟨its.toList, o, n, hv, KX _ _ e, hc, by simp [hd]⟩
mutual
theorem Dw.reads (hok : HOk P w H h) (KX : K.In h) : ∀ (d : WData) (v : V) (u : Value), Dw K H v d → RelV v u → ∃ as, ReadsW R cl h u d as
  | .none, _, _, x, r => by
    cases x
    cases r
    exact ⟨_, ReadsW.none⟩
  | .bool b, _, _, x, r => by
    cases x
    cases r
    exact ⟨_, ReadsW.bool b⟩
  | .int i, _, _, x, r => by
    cases x
    obtain ⟨t, rfl⟩ := r
    exact ⟨_, ReadsW.int i t⟩
  | .str s, _, _, x, r => by
    cases x
    obtain ⟨t, rfl⟩ := r
    exact ⟨_, ReadsW.str s t⟩
  | .bytes b, _, _, x, r => by
    cases x
    obtain ⟨t, rfl⟩ := r
    exact ⟨_, ReadsW.bytes _ t⟩
  | .list ds, _, _, x, r => by
    cases x with
    | lst hs ha =>
      cases r
      obtain ⟨its, o, n, rv, ho, hc, hd⟩ := sqL_at hok KX hs
      obtain ⟨as, hr⟩ := Dw.readsAll hok KX ds _ its ha rv
      exact ⟨_, ReadsW.list ho hc hd hr⟩
  | .tuple ds, _, _, x, r => by
    cases x with
    | tup hs ha =>
      cases r
      obtain ⟨its, o, n, rv, ho, hc, hd⟩ := sqT_at hok KX hs
      obtain ⟨as, hr⟩ := Dw.readsAll hok KX ds _ its ha rv
      exact ⟨_, ReadsW.tuple ho hc hd hr⟩
  | .float _, _, _, x, _ => by cases x
  | .dict _, _, _, x, _ => by cases x
  | .bytearray _, _, _, x, _ => by cases x
  | .set _, _, _, x, _ => by cases x
  | .frozenset _, _, _, x, _ => by cases x
  | .obj _ _, _, _, x, _ => by cases x
theorem Dw.readsAll (hok : HOk P w H h) (KX : K.In h) : ∀ (ds : List WData) (vs : List V) (us : List Value), DwAll K H vs ds → Vals vs us → ∃ as, ReadsAllW R cl h us ds as
  | [], _, _, x, r => by
    cases x
    cases r
    exact ⟨_, ReadsAllW.nil⟩
  | d :: ds, _, _, x, r => by
    cases x with
    | cons h1 h2 =>
      cases r with
      | cons r1 r2 =>
        obtain ⟨as, q1⟩ := Dw.reads hok KX d _ _ h1 r1
        obtain ⟨bs, q2⟩ := Dw.readsAll hok KX ds _ _ h2 r2
        exact ⟨_, ReadsAllW.cons q1 q2⟩
end
end
mutual
def plW : WData → Bool
  | .none => true
  | .bool _ => true
  | .int _ => true
  | .str _ => true
  | .bytes _ => true
  | .list xs => plWs xs
  | .tuple xs => plWs xs
  | _ => false
def plWs : List WData → Bool
  | [] => true
  | x :: r => plW x && plWs r
end
theorem plWs_map {α : Type} {f : α → WData} (h : ∀ a, plW (f a) = true) : ∀ l : List α, plWs (l.map f) = true
  | [] => rfl
  | x :: r => by
    show (plW (f x) && plWs (r.map f)) = true
    rw [h x, plWs_map h r] <;> rfl
theorem pl_enc : ∀ (c : Codec) (a : c.denote), plW (c.enc a) = true
  | .unit, _ => rfl
  | .bool, _ => rfl
  | .int _ _, _ => rfl
  | .nat _ _, _ => rfl
  | .u8, _ => rfl
  | .bytes _ _, _ => rfl
  | .text _ _ _ _, _ => rfl
  | .list _ _ c, a => plWs_map (fun x => pl_enc c x) a
  | .pair c d, a => by
    show (plW (c.enc a.1) && (plW (d.enc a.2) && true)) = true
    rw [pl_enc c a.1, pl_enc d a.2] <;> rfl
  | .triple c d e, a => by
    show (plW (c.enc a.1) && (plW (d.enc a.2.1) && (plW (e.enc a.2.2) && true))) = true
    rw [pl_enc c a.1, pl_enc d a.2.1, pl_enc e a.2.2] <;> rfl
  | .option c, none => rfl
  | .option c, some x => pl_enc c x
theorem pl_encAll : ∀ (cs : List Codec) (a : Codec.denoteAll cs), plWs (Codec.encAll cs a) = true
  | [], _ => rfl
  | c :: cs, a => by
    show (plW (c.enc a.1) && plWs (Codec.encAll cs a.2)) = true
    rw [pl_enc c a.1, pl_encAll cs a.2] <;> rfl
theorem weight_mem : ∀ {xs : List WData} {d : WData}, d ∈ xs → d.weight ≤ WData.weightAll xs
  | [], d, h => absurd h (by simp)
  | x :: r, d, h => by
    show d.weight ≤ x.weight + 1 + WData.weightAll r
    rcases List.mem_cons.mp h with e | m
    · rw [e]
      omega
    · have z := weight_mem m
      omega
def toV : Value → V
  | .none => .non
  | .bool b => .bl b
  | .int i _ => .int i
  | .str x _ => .str x
  | .bytes b _ => .byt b
  | .ref a => .ref a
  | _ => .non
def OkU (A : List Addr) : Value → Prop
  | .none => True
  | .bool _ => True
  | .int _ _ => True
  | .str _ _ => True
  | .bytes _ _ => True
  | .ref a => a ∈ A
  | _ => False
theorem OkU.mono {A B : List Addr} (h : ∀ a ∈ A, a ∈ B) : ∀ {u : Value}, OkU A u → OkU B u := fun {u} x => by
  cases u with
  | ref a => exact h a x
  | none => trivial
  | bool b => trivial
  | int i t => trivial
  | str s t => trivial
  | bytes b t => trivial
  | _ => exact False.elim x
theorem relV_toV {A : List Addr} {u : Value} (x : OkU A u) : RelV (toV u) u := by
  cases u with
  | ref a => rfl
  | none => rfl
  | bool b => rfl
  | int i t => exact ⟨t, rfl⟩
  | str s t => exact ⟨t, rfl⟩
  | bytes b t => exact ⟨t, rfl⟩
  | _ => exact False.elim x
theorem vals_toV {A : List Addr} : ∀ {vs : List Value}, (∀ u ∈ vs, OkU A u) → Vals (vs.map toV) vs
  | [], _ => .nil
  | u :: r, h => .cons (relV_toV (h u (List.mem_cons_self ..))) (vals_toV fun x hx => h x (List.mem_cons_of_mem _ hx))
def ArgOb (h : Heap) (A : List Addr) (a : Addr) : Prop := ∃ vs : List Value, vs.length ≤ sizeLine ∧ (∀ u ∈ vs, OkU A u) ∧
  (h.get? a = some { cls := .type "list", data := .seq vs.toArray } ∨ h.get? a = some { cls := .type "tuple", data := .seq vs.toArray })
theorem ArgOb.mono {h : Heap} {A B : List Addr} {a : Addr} (k : ∀ a ∈ A, a ∈ B) (x : ArgOb h A a) : ArgOb h B a := by
  obtain ⟨vs, h1, h2, h3⟩ := x
  exact ⟨vs, h1, fun u hu => (h2 u hu).mono k, h3⟩
theorem wellAll_len {P : Params} {h : Heap} : ∀ {vs : List Value} {ds : List WData}, WellAll P h vs ds → vs.length = ds.length
  | _, _, .nil => rfl
  | _, _, .cons _ b => by
    show _ + 1 = _ + 1
    rw [wellAll_len b]
theorem well_list {P : Params} {h : Heap} {v : Value} {ds : List WData} (x : Well P h v (.list ds)) : ∃ (a : Addr) (vs : List Value), v = .ref a ∧ h.get? a = some { cls := .type "list", data := .seq vs.toArray } ∧ WellAll P h vs ds := by
  cases x with
  | list ho hall => exact ⟨_, _, rfl, ho, hall⟩
theorem well_tuple {P : Params} {h : Heap} {v : Value} {ds : List WData} (x : Well P h v (.tuple ds)) : ∃ (a : Addr) (vs : List Value), v = .ref a ∧ h.get? a = some { cls := .type "tuple", data := .seq vs.toArray } ∧ WellAll P h vs ds := by
  cases x with
  | tuple ho hall => exact ⟨_, _, rfl, ho, hall⟩
theorem well_cons {P : Params} {h : Heap} {us : List Value} {d : WData} {ds : List WData} (x : WellAll P h us (d :: ds)) : ∃ (v : Value) (vs : List Value), us = v :: vs ∧ Well P h v d ∧ WellAll P h vs ds := by
  cases x with
  | cons a b => exact ⟨_, _, rfl, a, b⟩
theorem line_of {n : Nat} (h : n ≤ 1048576) : n ≤ sizeLine := Nat.le_trans h (by decide)
section
variable {P : Params} {h : Heap}
mutual
theorem area_one : ∀ (d : WData) (v : Value), Well P h v d → plW d = true → d.weight ≤ 1048576 → ∃ A : List Addr, OkU A v ∧ ∀ a ∈ A, ArgOb h A a
  | .none, _, x, _, _ => by
    cases x
    exact ⟨[], trivial, fun a m => absurd m (by simp)⟩
  | .bool b, _, x, _, _ => by
    cases x
    exact ⟨[], trivial, fun a m => absurd m (by simp)⟩
  | .int i, _, x, _, _ => by
    cases x
    exact ⟨[], trivial, fun a m => absurd m (by simp)⟩
  | .str s, _, x, _, _ => by
    cases x
    exact ⟨[], trivial, fun a m => absurd m (by simp)⟩
  | .bytes b, _, x, _, _ => by
    cases x
    exact ⟨[], trivial, fun a m => absurd m (by simp)⟩
  | .list ds, _, x, p, z => by
    obtain ⟨a, vs, rfl, ho, hall⟩ := well_list x
    have z2 : WData.weightAll ds ≤ 1048576 := z
    obtain ⟨A, h1, h2⟩ := area_all ds _ hall p fun d hd => Nat.le_trans (weight_mem hd) z2
    have k : ∀ b ∈ A, b ∈ a :: A := fun b hb => List.mem_cons_of_mem _ hb
    refine ⟨a :: A, List.mem_cons_self .., fun b hb => ?_⟩
    rcases List.mem_cons.mp hb with e | m
    · rw [e]
      exact ⟨vs, line_of (by rw [wellAll_len hall]; exact Nat.le_trans (PySem.W.length_le_weightAllW ds) z2), fun u hu => (h1 u hu).mono k, .inl ho⟩
    · exact (h2 b m).mono k
  | .tuple ds, _, x, p, z => by
    obtain ⟨a, vs, rfl, ho, hall⟩ := well_tuple x
    have z2 : WData.weightAll ds ≤ 1048576 := z
    obtain ⟨A, h1, h2⟩ := area_all ds _ hall p fun d hd => Nat.le_trans (weight_mem hd) z2
    have k : ∀ b ∈ A, b ∈ a :: A := fun b hb => List.mem_cons_of_mem _ hb
    refine ⟨a :: A, List.mem_cons_self .., fun b hb => ?_⟩
    rcases List.mem_cons.mp hb with e | m
    · rw [e]
      exact ⟨vs, line_of (by rw [wellAll_len hall]; exact Nat.le_trans (PySem.W.length_le_weightAllW ds) z2), fun u hu => (h1 u hu).mono k, .inr ho⟩
    · exact (h2 b m).mono k
  | .float _, _, _, p, _ => Bool.noConfusion (show false = true from p)
  | .dict _, _, _, p, _ => Bool.noConfusion (show false = true from p)
  | .bytearray _, _, _, p, _ => Bool.noConfusion (show false = true from p)
  | .set _, _, _, p, _ => Bool.noConfusion (show false = true from p)
  | .frozenset _, _, _, p, _ => Bool.noConfusion (show false = true from p)
  | .obj _ _, _, _, p, _ => Bool.noConfusion (show false = true from p)
theorem area_all : ∀ (ds : List WData) (vs : List Value), WellAll P h vs ds → plWs ds = true → (∀ d ∈ ds, d.weight ≤ 1048576) → ∃ A : List Addr, (∀ u ∈ vs, OkU A u) ∧ ∀ a ∈ A, ArgOb h A a
  | [], _, x, _, _ => by
    cases x
    exact ⟨[], fun u m => absurd m (by simp), fun a m => absurd m (by simp)⟩
  | d :: ds, _, x, p, z => by
    obtain ⟨v, vs, rfl, x1, x2⟩ := well_cons x
    have q : plW d = true ∧ plWs ds = true := Bool.and_eq_true_iff.mp p
    obtain ⟨A, a1, a2⟩ := area_one d v x1 q.1 (z d (List.mem_cons_self ..))
    obtain ⟨B, b1, b2⟩ := area_all ds vs x2 q.2 fun e he => z e (List.mem_cons_of_mem _ he)
    have kA : ∀ b ∈ A, b ∈ A ++ B := fun b hb => List.mem_append.mpr (.inl hb)
    have kB : ∀ b ∈ B, b ∈ A ++ B := fun b hb => List.mem_append.mpr (.inr hb)
    refine ⟨A ++ B, fun u hu => ?_, fun b hb => ?_⟩
    · rcases List.mem_cons.mp hu with e | m
      · rw [e]
        exact a1.mono kA
      · exact (b1 u m).mono kB
    · rcases List.mem_append.mp hb with m | m
      · exact (a2 b m).mono kA
      · exact (b2 b m).mono kB
end
end
def hoOf (o : Obj) : Option HO := match o.data with
  | .seq vs _ => if (o.cls == Value.type "list") = true then some (.frz o (.lst (vs.toList.map toV))) else some (.frz o (.tup (vs.toList.map toV)))
  | _ => none
def argH (K : PySem.W.Frag) (h : Heap) (A : List Addr) : Hp := fun b => if b ∈ A then (if (K.lookup b).isNone = true then (h.get? b).bind hoOf else none) else none
def OnlyF (H : Hp) : Prop := ∀ b, H b = none ∨ ∃ o u, H b = some (.frz o u)
theorem hoOf_lst (vs : List Value) : hoOf { cls := .type "list", data := .seq vs.toArray } = some (.frz { cls := .type "list", data := .seq vs.toArray } (.lst (vs.map toV))) := by
  show (if (Value.type "list" == Value.type "list") = true then some (HO.frz { cls := .type "list", data := .seq vs.toArray } (.lst (vs.toArray.toList.map toV))) else some (HO.frz { cls := .type "list", data := .seq vs.toArray } (.tup (vs.toArray.toList.map toV)))) = _
  rw [if_pos (beq_self_eq_true _)]
theorem hoOf_tup (vs : List Value) : hoOf { cls := .type "tuple", data := .seq vs.toArray } = some (.frz { cls := .type "tuple", data := .seq vs.toArray } (.tup (vs.map toV))) := by
  show (if (Value.type "tuple" == Value.type "list") = true then some (HO.frz { cls := .type "tuple", data := .seq vs.toArray } (.lst (vs.toArray.toList.map toV))) else some (HO.frz { cls := .type "tuple", data := .seq vs.toArray } (.tup (vs.toArray.toList.map toV)))) = _
  rw [if_neg (by decide)]
section
variable {P : Program} {w : World} {K : PySem.W.Frag} {h : Heap} {A : List Addr}
theorem argH_at {b : Addr} {o : Obj} (hb : b ∈ A) (hk : K.lookup b = none) (e : h.get? b = some o) : argH K h A b = hoOf o := by
  unfold argH
  rw [if_pos hb, hk, if_pos (show (none : Option Obj).isNone = true from rfl), e] <;> rfl
theorem of_argH {b : Addr} {u : HO} (q : argH K h A b = some u) : b ∈ A ∧ K.lookup b = none := by
  unfold argH at q
  by_cases hb : b ∈ A
  · rw [if_pos hb] at q
    cases hk : K.lookup b with
    | none => exact ⟨hb, rfl⟩
    | some o =>
      rw [hk, if_neg (by simp)] at q
      cases q
  · rw [if_neg hb] at q
    cases q
theorem argH_is (ar : ∀ a ∈ A, ArgOb h A a) {b : Addr} {u : HO} (q : argH K h A b = some u) : K.lookup b = none ∧ ∃ vs : List Value, vs.length ≤ sizeLine ∧ (∀ u ∈ vs, OkU A u) ∧
    ((h.get? b = some { cls := .type "list", data := .seq vs.toArray } ∧ u = .frz { cls := .type "list", data := .seq vs.toArray } (.lst (vs.map toV))) ∨
     (h.get? b = some { cls := .type "tuple", data := .seq vs.toArray } ∧ u = .frz { cls := .type "tuple", data := .seq vs.toArray } (.tup (vs.map toV)))) := by
  obtain ⟨hb, hk⟩ := of_argH q
  obtain ⟨vs, h1, h2, h3⟩ := ar b hb
  refine ⟨hk, vs, h1, h2, ?_⟩
  rcases h3 with e | e
  · rw [argH_at hb hk e, hoOf_lst] at q
    exact .inl ⟨e, (Option.some.inj q).symm⟩
  · rw [argH_at hb hk e, hoOf_tup] at q
    exact .inr ⟨e, (Option.some.inj q).symm⟩
theorem argH_only (ar : ∀ a ∈ A, ArgOb h A a) : OnlyF (argH K h A) := fun b => by
  cases q : argH K h A b with
  | none => exact .inl rfl
  | some u =>
    obtain ⟨_, vs, _, _, ⟨_, e⟩ | ⟨_, e⟩⟩ := argH_is ar q
    · exact .inr ⟨_, _, by rw [e]⟩
    · exact .inr ⟨_, _, by rw [e]⟩
theorem argH_ok (ar : ∀ a ∈ A, ArgOb h A a) : HOk P w (argH K h A) h := fun b u q => by
  obtain ⟨_, vs, h1, h2, ⟨e, rfl⟩ | ⟨e, rfl⟩⟩ := argH_is ar q
  · exact ⟨e, by rw [List.length_map]; exact h1, vs, _, vals_toV h2, e⟩
  · exact ⟨e, by rw [List.length_map]; exact h1, vs, vals_toV h2, _, e, rfl, _, rfl⟩
theorem seq_inj {c c' : Value} {vs us : List Value} (e : (some { cls := c, data := .seq vs.toArray } : Option Obj) = some { cls := c', data := .seq us.toArray }) : c = c' ∧ vs = us := by
  have e1 := Option.some.inj e
  have e2 : c = c' := congrArg Obj.cls e1
  have e3 : Data.seq vs.toArray = Data.seq us.toArray := congrArg Obj.data e1
  injection e3 with e4
  refine ⟨e2, ?_⟩
  have e5 := congrArg Array.toList e4
  simpa using e5
theorem argL (KX : K.In h) (ar : ∀ a ∈ A, ArgOb h A a) {a : Addr} {vs : List Value} (ha : a ∈ A) (e : h.get? a = some { cls := .type "list", data := .seq vs.toArray }) : (∀ u ∈ vs, OkU A u) ∧ SqL K (argH K h A) a (vs.map toV) := by
  obtain ⟨us, h1, h2, h3⟩ := ar a ha
  have hu : us = vs := by
    rcases h3 with q | q
    · rw [e] at q
      exact (seq_inj q).2.symm
    · rw [e] at q
      exact absurd (Value.type.inj (seq_inj q).1) (by decide)
  subst hu
  refine ⟨h2, ?_⟩
  cases hk : K.lookup a with
  | none => exact .inl (.inr ⟨_, by rw [argH_at ha hk e, hoOf_lst]⟩)
  | some o =>
    have e2 := KX a o hk
    rw [e] at e2
    obtain rfl := Option.some.inj e2
    exact .inr ⟨_, us.toArray, _, hk, rfl, rfl, rfl, by rw [List.size_toArray]; exact h1, by simpa using vals_toV h2⟩
theorem argT (KX : K.In h) (ar : ∀ a ∈ A, ArgOb h A a) {a : Addr} {vs : List Value} (ha : a ∈ A) (e : h.get? a = some { cls := .type "tuple", data := .seq vs.toArray }) : (∀ u ∈ vs, OkU A u) ∧ SqT K (argH K h A) a (vs.map toV) := by
  obtain ⟨us, h1, h2, h3⟩ := ar a ha
  have hu : us = vs := by
    rcases h3 with q | q
    · rw [e] at q
      exact absurd (Value.type.inj (seq_inj q).1) (by decide)
    · rw [e] at q
      exact (seq_inj q).2.symm
  subst hu
  refine ⟨h2, ?_⟩
  cases hk : K.lookup a with
  | none => exact .inl (.inr ⟨_, by rw [argH_at ha hk e, hoOf_tup]⟩)
  | some o =>
    have e2 := KX a o hk
    rw [e] at e2
    obtain rfl := Option.some.inj e2
    exact .inr ⟨_, us.toArray, _, hk, rfl, rfl, by rw [List.size_toArray]; exact h1, by simpa using vals_toV h2⟩
mutual
theorem dw_one {Pm : Params} (KX : K.In h) (ar : ∀ a ∈ A, ArgOb h A a) : ∀ (d : WData) (v : Value), Well Pm h v d → plW d = true → OkU A v → Dw K (argH K h A) (toV v) d
  | .none, _, x, _, _ => by
    cases x
    exact .non
  | .bool b, _, x, _, _ => by
    cases x
    exact .bl b
  | .int i, _, x, _, _ => by
    cases x
    exact .int i
  | .str s, _, x, _, _ => by
    cases x
    exact .str s
  | .bytes b, _, x, _, _ => by
    cases x
    have z := Dw.byt (K := K) (H := argH K h A) b.toArray
    exact z
  | .list ds, _, x, p, hu => by
    obtain ⟨a, vs, rfl, ho, hall⟩ := well_list x
    obtain ⟨h2, hs⟩ := argL KX ar hu ho
    exact .lst hs (dw_all KX ar ds _ hall p h2)
  | .tuple ds, _, x, p, hu => by
    obtain ⟨a, vs, rfl, ho, hall⟩ := well_tuple x
    obtain ⟨h2, hs⟩ := argT KX ar hu ho
    exact .tup hs (dw_all KX ar ds _ hall p h2)
  | .float _, _, _, p, _ => Bool.noConfusion (show false = true from p)
  | .dict _, _, _, p, _ => Bool.noConfusion (show false = true from p)
  | .bytearray _, _, _, p, _ => Bool.noConfusion (show false = true from p)
  | .set _, _, _, p, _ => Bool.noConfusion (show false = true from p)
  | .frozenset _, _, _, p, _ => Bool.noConfusion (show false = true from p)
  | .obj _ _, _, _, p, _ => Bool.noConfusion (show false = true from p)
theorem dw_all {Pm : Params} (KX : K.In h) (ar : ∀ a ∈ A, ArgOb h A a) : ∀ (ds : List WData) (vs : List Value), WellAll Pm h vs ds → plWs ds = true → (∀ u ∈ vs, OkU A u) → DwAll K (argH K h A) (vs.map toV) ds
  | [], _, x, _, _ => by
    cases x
    exact .nil
  | d :: ds, _, x, p, hu => by
    obtain ⟨v, vs, rfl, x1, x2⟩ := well_cons x
    have q : plW d = true ∧ plWs ds = true := Bool.and_eq_true_iff.mp p
    exact .cons (dw_one KX ar d v x1 q.1 (hu _ (List.mem_cons_self ..))) (dw_all KX ar ds vs x2 q.2 fun u m => hu u (List.mem_cons_of_mem _ m))
end
end
theorem spec_call {P : Program} {w : World} {K : PySem.W.Frag} {mg mb : Str → Option Value} {CX : CXT} {k : Nat} {fa : Addr} {fd : FuncData} {ps : List Str} {sp : Sp} {s₁ : Shared} {vals : List Value} {ds : List WData} {R : PySem.W.WRecords} {cl : Str → Option Addr} {d0 : WData}
    (KX : K.In s₁.heap) (hns : s₁.heap.Ns mainGlobals mg) (hb : s₁.heap.Ns builtinsNs mb) (hbb : ∀ x : Str, x ≠ "__name__" → mb x = bootBuiltins x) (hlim : s₁.heap.NoLimit) (hg : s₁.gens = #[])
    (hwl : WellAll w.params s₁.heap vals ds) (hpl : plWs ds = true) (hwt : ∀ d ∈ ds, d.weight ≤ 1048576) (hr : Room k callerA)
    (F : ∀ base : Heap, K.In base → base.Ns mainGlobals mg → FnOk P w K mg base CX k fa fd ps sp) (hbind : ∀ (s : Shared) (us : List Value), us.length = ps.length → BindsTo s fd ⟨us, []⟩ (ps.zip us)) (hlen : ds.length = ps.length)
    (hsp : ∀ (H : Hp) (xs : List V), OnlyF H → DwAll K H xs ds → sp xs H (fun v H' => Dw K H' v d0) fun _ _ _ => False)
    (hCX : ∀ H e s', CX [] H s₁ (fun _ _ _ => False) e s' → False) :
    codeAny (model P w) callerA (.call (.ref fa) ⟨vals, []⟩) (fun r s' => ∃ u as, r = .ok (.ret u) ∧ ReadsW R cl s'.heap u d0 as ∧ OldK s₁.heap s'.heap ∧ s'.os = s₁.os ∧ AllBare s'.gens) s₁ := by
  obtain ⟨A, ho, ar⟩ := area_all ds vals hwl hpl hwt
  have hO : OnlyF (argH K s₁.heap A) := argH_only ar
  have hok : HOk P w (argH K s₁.heap A) s₁.heap := argH_ok ar
  have hS := dw_all KX ar ds vals hwl hpl ho
  have hV := vals_toV ho
  have hK : ∀ b u, argH K s₁.heap A b = some u → K.lookup b = none := fun b u q => (argH_is ar q).1
  have noA : ∀ {b : Addr} {o : Obj} {es : Array DictEntry} {ep : Nat}, s₁.heap.get? b = some o → o.data = .dict es ep → argH K s₁.heap A b = none := fun {b o es ep} e d => by
    cases q : argH K s₁.heap A b with
    | none => rfl
    | some u =>
      obtain ⟨_, vs, _, _, ⟨e2, _⟩ | ⟨e2, _⟩⟩ := argH_is ar q
      · rw [e2] at e
        cases e
        have d' : Data.seq vs.toArray _ = Data.dict es ep := d
        cases d'
      · rw [e2] at e
        cases e
        have d' : Data.seq vs.toArray _ = Data.dict es ep := d
        cases d'
  generalize argH K s₁.heap A = H at hO hok hS hK noA
  have base_of : ∀ {b : Addr} {o : Obj}, s₁.heap.get? b = some o → H b = none → (hidT s₁.heap H).get? b = some o := fun e n => hidT_get e n
  have nsK : ∀ {b : Addr} {m : Str → Option Value}, s₁.heap.Ns b m → (hidT s₁.heap H).Ns b m := fun {b m} ⟨o, es, ep, e, d, r⟩ => ⟨o, es, ep, base_of e (noA e d), d, r⟩
  have nK : ∀ b o, K.lookup b = some o → H b = none := fun b o e => by
    cases q : H b with
    | none => rfl
    | some u =>
      rw [hK b u q] at e
      cases e
  have hKb : K.In (hidT s₁.heap H) := fun b o e => base_of (KX b o e) (nK b o e)
  have hM : Mod K mg (hidT s₁.heap H) := ⟨hKb, nsK hns, ⟨mb, nsK hb, hbb⟩, let ⟨mc, h1, h2⟩ := hlim; ⟨mc, nsK h1, h2⟩⟩
  have e0 : Env0 P w K mg (hidT s₁.heap H) callerA [] s₁ H := ⟨rfl, hM, fun b o e => of_hidT e, Nat.le_of_eq (hidT_size _ _), trivial, fun b hb => absurd (show b ∈ ([] : List Addr) from hb) (by simp), hok, .of_eq hg⟩
  have hl : vals.length = ps.length := by rw [wellAll_len hwl]; exact hlen
  refine codeAny_mono ((F _ hKb (nsK hns)).run callerA [] s₁ H ⟨vals, []⟩ vals (vals.map toV) _ _ hr e0 (hbind s₁ vals hl) hV (hsp H _ hO hS)) fun r s' x => ?_
  cases r with
  | error e => exact (hCX H e s' x).elim
  | ok fl =>
    cases fl with
    | next => exact False.elim x
    | brk => exact False.elim x
    | cont => exact False.elim x
    | ret u =>
      obtain ⟨v, H', os, bare, un, hok', r', q⟩ := x
      have kept : ∀ b o, s₁.heap.get? b = some o → s'.heap.get? b = some o := fun b o e => by
        cases q2 : H b with
        | none => exact un.keep b o e q2 (by intro z; exact absurd (show b ∈ ([] : List Addr) from z) (by simp)) (by simp)
        | some u2 =>
          rcases hO b with z | ⟨ob, u3, z⟩
          · rw [q2] at z
            cases z
          · have z2 := un.frzs b ob _ z
            obtain ⟨e1, _⟩ := hok b _ z
            obtain ⟨e2, _⟩ := hok' b _ z2
            rw [e] at e1
            cases e1
            exact e2
      have KX' : K.In s'.heap := fun b o e => kept b o (KX b o e)
      obtain ⟨as, hrd⟩ := Dw.reads (R := R) (cl := cl) hok' KX' d0 v u q r'
      exact ⟨u, as, rfl, hrd, OldK.of_keep kept, os, bare⟩
theorem layable_weight {ds : List WData} (h : WData.layableAll ds = true) : ∀ d ∈ ds, d.weight ≤ 1048576 := fun d hd =>
  (PySem.W.layableW_iff.mp (List.all_eq_true.mp h d hd)).2.2
theorem encAll_len : ∀ (cs : List Codec) (a : Codec.denoteAll cs), (Codec.encAll cs a).length = cs.length
  | [], _ => rfl
  | c :: cs, a => by
    show (Codec.encAll cs a.2).length + 1 = cs.length + 1
    rw [encAll_len cs a.2]
theorem walk_spec {r : OpenSpec} {k : Nat} {q : Program} {loose : List Str} {XP : (Str → Option Value) → Heap → Prop} {YP : World → Heap → Prop} {d : DefRec} {K : Params → PySem.W.Frag} {CX : World → CXT} {ps : List Str} {sp : World → Sp}
    (hwell : r.wellSaid = true) (hdf : d.params.defaults = []) (hlen : r.args.length = ps.length) (hr : Room k callerA)
    (hY : ∀ (w : World) (h : Heap), YP w h → (K w.params).In h)
    (F : ∀ (w : World) (mg : Str → Option Value) (fa : Addr) (h : Heap), YP w h → (K w.params).In h → h.Ns mainGlobals mg → mg d.name = some (.ref fa) →
      ∃ fd : FuncData, (∀ (s : Shared) (us : List Value), us.length = ps.length → BindsTo s fd ⟨us, []⟩ (ps.zip us)) ∧
        ∀ base : Heap, (K w.params).In base → base.Ns mainGlobals mg → FnOk r.prog w (K w.params) mg base (CX w) k fa fd ps (sp w))
    (hsp : ∀ (w : World) (H : Hp) (xs : List V) (a : Codec.denoteAll r.args), OnlyF H → Codec.withinAll r.args a = true → Codec.app r.args r.asked a = true → DwAll (K w.params) H xs (Codec.encAll r.args a) →
      sp w xs H (fun v H' => Dw (K w.params) H' v (r.ret.enc (Codec.app r.args r.f a))) fun _ _ _ => False)
    (hCX : ∀ (w : World) (H : Hp) (s : Shared) (e : Value) (s' : Shared), CX w [] H s (fun _ _ _ => False) e s' → False) :
    PySem.W.WalkOS q loose XP YP r d [] (fun f vs => PySem.call f vs) := by
  intro w s_0 s₁ mg mb G Y fa o pm cd doc dV kV ho hd hcd hD hmg hg args vals as hpre hlay hrd hwl hlo
  obtain ⟨a, e1, e2⟩ := PySem.W.os_pre_some hpre
  obtain ⟨e3, hwi⟩ := Codec.encAll_of_decAll r.args args a e1
  subst e3
  have KX := hY w _ Y
  obtain ⟨fd, hb, hF⟩ := F w mg fa _ Y KX G.T.g hmg
  refine PySem.W.enter_call (codeAny_mono (spec_call (R := []) (cl := classAt s_0.heap) (d0 := r.ret.enc (Codec.app r.args r.f a)) KX G.T.g G.T.b G.T.builtins G.T.nolimit hg hwl (pl_encAll _ _) (layable_weight hlay) hr hF hb (by rw [encAll_len]; exact hlen)
    (fun H xs hO hS => hsp w H xs a hO hwi e2 hS) fun H e s' => hCX w H s₁ e s') fun r' s' hq => ?_)
  obtain ⟨u, as', rfl, h1, h2, h3, h4⟩ := hq
  exact ⟨.inl ⟨u, _, as', rfl, fun _ => rfl, h1, (OpenSpec.post_iff hwell hwi _ _).mpr rfl, fun z => Bool.noConfusion (show false = true from z)⟩, h2, h3, h4⟩
theorem walk_specK {r : OpenSpec} {k : Nat} {q : Program} {loose : List Str} {XP : (Str → Option Value) → Heap → Prop} {YP : World → Heap → Prop} {d : DefRec} {K : Params → PySem.W.Frag} {CX : CXT} {ps : List Str} {sp : PySem.W.Frag → Sp}
    (hwell : r.wellSaid = true) (hdf : d.params.defaults = []) (hlen : r.args.length = ps.length) (hr : Room k callerA)
    (hY : ∀ (w : World) (h : Heap), YP w h → (K w.params).In h)
    (F : ∀ (w : World) (mg : Str → Option Value) (fa : Addr) (h : Heap), YP w h → (K w.params).In h → h.Ns mainGlobals mg → mg d.name = some (.ref fa) →
      ∃ fd : FuncData, (∀ (s : Shared) (us : List Value), us.length = ps.length → BindsTo s fd ⟨us, []⟩ (ps.zip us)) ∧
        ∀ base : Heap, (K w.params).In base → base.Ns mainGlobals mg → FnOk r.prog w (K w.params) mg base CX k fa fd ps (sp (K w.params)))
    (hsp : ∀ (K : PySem.W.Frag) (H : Hp) (xs : List V) (a : Codec.denoteAll r.args), OnlyF H → Codec.withinAll r.args a = true → Codec.app r.args r.asked a = true → DwAll K H xs (Codec.encAll r.args a) →
      sp K xs H (fun v H' => Dw K H' v (r.ret.enc (Codec.app r.args r.f a))) fun _ _ _ => False)
    (hCX : ∀ (H : Hp) (s : Shared) (e : Value) (s' : Shared), CX [] H s (fun _ _ _ => False) e s' → False) :
    PySem.W.WalkOS q loose XP YP r d [] (fun f vs => PySem.call f vs) :=
  walk_spec (K := K) (CX := fun _ => CX) (sp := fun w => sp (K w.params)) hwell hdf hlen hr hY F (fun w H xs a h1 h2 h3 h4 => hsp (K w.params) H xs a h1 h2 h3 h4) fun _ H s e s' => hCX H s e s'
end L2
end
set_option maxRecDepth 100000
set_option Elab.async false
namespace PB
open PySem
open Sem (wp)
open PySem.F
section
variable {prog : Program} {w : World} {A : Around} {E : Value → Shared → Prop} {s : Shared}
theorem callType_kw {T newId initId : String} {Bn Bi : Builtin} {args : List Value} {kw : List (Str × Value)} {S : Spec} {Q Q1 : Value → Shared → Prop} (fc : TypeCalled T newId initId)
    (hct : checkTypeCall T ⟨args, kw⟩ = pure ()) (hcn : checkBuiltinCall newId ⟨.type T :: args, kw⟩ = pure ())
    (entN : entryFor table newId = some Bn) (entI : entryFor table initId = some Bi) (g : Meets (Bn ⟨.type T :: args, kw⟩) S)
    (h : S A.in1 (wants Q1 E) s)
    (hnext : ∀ obj sx1, Q1 obj sx1 → sx1.TypeIs obj T ∧ argsOk initId ⟨obj :: args, kw⟩ ∧ ∃ Si, Meets (Bi ⟨obj :: args, kw⟩) Si ∧ Si A.in1 (wants (fun r sx2 => r = .none ∧ Q obj sx2) E) sx1) :
    wpAny (model prog w) A (call (.type T) args kw) Q E s := by
  obtain ⟨cc, tl, hmr⟩ := fc.mro
  have hmade := fc.made
  have hsub := fc.sub
  refine (wpAny_call (codeAny_of_tree ?_))
  show (wpAny _ _ (callAny (.type T) _) _ _ _)
  refine (wpAny_pure ⟨Code.quiet_builtin _ (by decide +kernel), codeAny_builtin F.entry_type_call ?_⟩)
  rw [Around.under_plain (weight_type_call_type T args kw) (units_type_call_type T args kw)]
  have h1 := fc.notType
  have h2 := fc.canCreate
  repeat (any_goals (first | assumption | wp_step))
  refine codeAny_mono (codeAny_call_builtin fc.plain entN (wpAny_of_eq hcn (g prog w A.in1 _ s h))) fun r sx1 hr => ?_
  cases r with
  | error e => exact hr
  | ok fl =>
    cases fl with
    | ret obj =>
      obtain ⟨kT, kok, Si, gi, hsi⟩ := hnext _ _ hr
      have hli := fc.init.lookup
      have hbi := fc.init.bind obj
      repeat (any_goals (first | assumption | wp_step))
      refine codeAny_mono (codeAny_call_builtin fc.init.plain entI (fc.init.check _ _ _ _ _ _ _ _ kT kok (gi prog w A.in1 _ sx1 hsi))) fun rx2 sx2 hrx2 => ?_
      cases rx2 with
      | error e => exact hrx2
      | ok flx2 =>
        cases flx2 with
        | ret r =>
          obtain ⟨rfl, hq⟩ := hrx2
          repeat (any_goals (first | assumption | wp_step))
        | _ => exact hrx2.elim
    | _ => exact hr.elim
end
theorem object_init_kw {T newId : String} {self a : Value} {rest : List Value} {kw : List (Str × Value)} (kl : typeLookup (.type T) "__init__" = pure (some (.builtin "object.__init__")))
    (kmade : Bind.madeBy (.type T) = pure (some newId)) (knew : (some newId != some "object.__new__") = true) :
    Meets (Builtin.«object.__init__» ⟨self :: a :: rest, kw⟩) (fun _ R s => s.TypeIs self T ∧ R (.ok (.ret .none)) s) := by
  refine (Meets.of_wp fun prog w A R s hs => ?_)
  obtain ⟨kT, hq⟩ := hs
  repeat (any_goals (first | assumption | wp_step))
  exact ⟨_, rfl, hq⟩
abbrev skw (i : Int) (t : Tok) : List (Str × Value) := [(Str.ofString "start", .int i t)]
theorem typeCall_es (a : Value) (i : Int) (t : Tok) : checkTypeCall "enumerate" ⟨[a], skw i t⟩ = pure () := by kernel_rfl
theorem newCall_es (a : Value) (i : Int) (t : Tok) : checkBuiltinCall "enumerate.__new__" ⟨[.type "enumerate", a], skw i t⟩ = pure () := by kernel_rfl
theorem args_init_es (a b : Value) (i : Int) (t : Tok) : argsOk "object.__init__" ⟨[a, b], skw i t⟩ := by
  unfold PySem.argsOk; rw [signature?_of (id := "object.__init__") (n := ['_', '_', 't', 'i', 'n', 'i', '_', '_']) (o := ['t', 'c', 'e', 'j', 'b', 'o']) (by kernel_rfl) owner_object]; kernel_rfl
theorem meets_enum_start (la : Addr) (its : Array Value) (n : Nat) (dc : Option Addr) (ss : Array (Option Value)) (i : Int) (t : Tok) (hi : Builtin.SmallTypes.fitsIndex i = true) :
    Meets (Builtin.«enumerate.__new__» ⟨[.type "enumerate", .ref la], skw i t⟩) (fun _ R s => s.heap.get? la = some { cls := .type "list", dict := dc, data := .seq its n, slots := ss } ∧
      R (.ok (.ret (.ref (s.heap.push { cls := .type "list_iterator", data := .fields #[.ref la, .int 0 0] }).objs.size)))
        { s with heap := (s.heap.push { cls := .type "list_iterator", data := .fields #[.ref la, .int 0 0] }).push { cls := .type "enumerate", data := .fields #[.none, .bool false, .ref s.heap.objs.size, rawInt i, .none, .none] } }) :=
  .of_wp fun prog w A R s h => by
    obtain ⟨hq, g, d, tq, os⟩ := s; obtain ⟨kl, h⟩ := h
    have hsub := sub_enumerate
    have kL : Heap.IsList (Shared.heap ⟨hq, g, d, tq, os⟩) la its := ⟨_, kl, rfl, n, rfl⟩
    wp_walk using AutoSeq1.wpAny_loadPart' kl
    refine (wpAny_stack_any fun st => wpAny_pure ?_)
    split
    · rename_i cc _ _ _ _ _
      cases (cc == Value.type "enumerate")
      · wp_walk using AutoSeq1.wpAny_loadPart' kl, wpAny_pyIter_list kL
        exact ⟨_, rfl, h⟩
      · wp_walk using AutoSeq1.wpAny_loadPart' kl, wpAny_pyIter_list kL
        exact ⟨_, rfl, h⟩
    · wp_walk using AutoSeq1.wpAny_loadPart' kl, wpAny_pyIter_list kL
      exact ⟨_, rfl, h⟩
section
variable {prog : Program} {w : World} {A : Around} {E : Value → Shared → Prop} {s : Shared}
theorem call_enum_start {la : Addr} {its : Array Value} {i : Int} {t : Tok} {Q : Value → Shared → Prop} (hi : Builtin.SmallTypes.fitsIndex i = true) (kL : s.heap.IsList la its)
    (h : ∀ h', IsEnum h' (s.heap.objs.size + 1) s.heap.objs.size i .none → h'.IsListIter s.heap.objs.size la 0 → h'.objs.size = s.heap.objs.size + 2 →
      (∀ ad ob, s.heap.get? ad = some ob → h'.get? ad = some ob) → Q (.ref (s.heap.objs.size + 1)) { s with heap := h' }) :
    wpAny (model prog w) A (call (.type "enumerate") [.ref la] (skw i t)) Q E s := by
  obtain ⟨⟨cc, dc, dd, ss⟩, kl, kc, n, kd⟩ := kL
  replace kc : cc = .type "list" := kc
  replace kd : dd = .seq its n := kd
  subst kc kd
  refine callType_kw (Q1 := fun obj sx1 => sx1.TypeIs obj "enumerate" ∧ Q obj sx1) F.called_enumerate (typeCall_es _ i t) (newCall_es _ i t) F.entry_enumerate_new F.entry_object_init
    (meets_enum_start la its n dc ss i t hi) ⟨kl, ?_⟩ (fun obj _ hq => ⟨hq.1, args_init_es obj _ i t, _, object_init_kw F.called_enumerate.init.lookup F.called_enumerate.made (by decide), hq.1, rfl, hq.2⟩)
  have kz : (s.heap.push { cls := .type "list_iterator", data := .fields #[.ref la, .int 0 0] }).objs.size = s.heap.objs.size + 1 := Heap.size_push ..
  show _ ∧ _
  rw [kz]
  have kw : IsEnum ((s.heap.push { cls := .type "list_iterator", data := .fields #[.ref la, .int 0 0] }).push
      { cls := .type "enumerate", data := .fields #[.none, .bool false, .ref s.heap.objs.size, rawInt i, .none, .none] }) (s.heap.objs.size + 1) s.heap.objs.size i .none := by
    have := Heap.get?_push_size (s.heap.push { cls := .type "list_iterator", data := .fields #[.ref la, .int 0 0] })
      (o := { cls := .type "enumerate", data := .fields #[.none, .bool false, .ref s.heap.objs.size, rawInt i, .none, .none] }) rfl
    rw [kz] at this; exact this
  refine ⟨⟨_, kw, rfl⟩, h _ kw ⟨_, Heap.get?_push_of_some _ (Heap.get?_push_size _ rfl), rfl, rfl⟩ (by rw [Heap.size_push, kz]) fun b o x => Heap.get?_push_of_some _ (Heap.get?_push_of_some _ x)⟩
theorem enumS_next {e it la : Addr} {i : Nat} {n : Int} {xs : Array Value} {x old : Value} {Q : Value → Shared → Prop} (ke : IsEnum s.heap e it n old) (ki : s.heap.IsListIter it la i) (kl : s.heap.IsList la xs) (kx : xs[i]? = some x) (ne : e ≠ it)
    (kQ : ∀ h', IsEnumOut h' e it (n + 1) x s.heap.objs.size → h'.IsListIter it la (i + 1) → h'.get? s.heap.objs.size = some { cls := .type "tuple", data := .seq #[.int n s.toks, x] } → h'.objs.size = s.heap.objs.size + 1 →
      (∀ ad ob, ad ≠ e → ad ≠ it → s.heap.get? ad = some ob → h'.get? ad = some ob) → Q (.ref s.heap.objs.size) { s with heap := h', toks := s.toks + 1 }) :
    wpAny (model prog w) A (Builtin.«enumerate.__next__» ⟨[.ref e], []⟩) (fun f s' => ∃ v, f = .done (.ret v) ∧ Q v s') E s := by
  obtain ⟨hq, g, d, tq, os⟩ := s
  show wpAny (model prog w) A (field (.ref e) 2 >>= _) _ E ⟨hq, g, d, tq, os⟩
  refine wpAny_bind (wpAny_field ke rfl (x := .ref it) rfl (wpAny_bind (wpAny_nextOf_list_item ki kl kx fun p1 ki1 sb1 => ?_)))
  replace sb1 : Heap.SameBut it hq p1 := sb1
  have ke1 : IsEnum p1 e it n old := (sb1.2 e ne).trans ke
  show wpAny (model prog w) A (field (.ref e) 3 >>= _) _ E ⟨p1, g, d, tq, os⟩
  refine wpAny_bind (wpAny_field ke1 rfl (x := rawInt n) rfl ?_)
  show wpAny (model prog w) A (field (.ref e) 4 >>= _) _ E ⟨p1, g, d, tq, os⟩
  refine wpAny_bind (wpAny_field ke1 rfl (x := .none) rfl ?_)
  show wpAny (model prog w) A (mkInt n >>= _) _ E ⟨p1, g, d, tq, os⟩
  refine (wpAny_bind (wpAny_mkInt ?_))
  show wpAny (model prog w) A (setField (.ref e) 3 (rawInt (n + 1)) >>= _) _ E ⟨p1, g, d, tq + 1, os⟩
  refine wpAny_bind (wpAny_setField_rec ke1 (by simp) fun p2 ke2 sb2 => ?_)
  replace sb2 : Heap.SameBut e p1 p2 := sb2
  replace ke2 : IsEnum p2 e it (n + 1) old := ke2
  show wpAny (model prog w) A (setField (.ref e) 4 .none >>= _) _ E ⟨p2, g, d, tq + 1, os⟩
  refine wpAny_bind (wpAny_setField_rec ke2 (by simp) fun p3 ke3 sb3 => ?_)
  replace sb3 : Heap.SameBut e p2 p3 := sb3
  replace ke3 : IsEnum p3 e it (n + 1) old := ke3
  show wpAny (model prog w) A (newTuple [.int n tq, x] >>= _) _ E ⟨p3, g, d, tq + 1, os⟩
  refine (wpAny_bind (wpAny_newTuple ?_))
  have ke4 : IsEnum (p3.push { cls := .type "tuple", data := .seq #[.int n tq, x] }) e it (n + 1) old := Heap.get?_push_of_some _ ke3
  generalize q4 : p3.push { cls := .type "tuple", data := .seq #[.int n tq, x] } = p4 at ke4
  have sz : p3.objs.size = hq.objs.size := by rw [sb3.1, sb2.1, sb1.1]
  have lt : e < hq.objs.size := Heap.lt_size ke
  have t4 : p4.get? hq.objs.size = some { cls := .type "tuple", data := .seq #[.int n tq, x] } := by
    rw [← q4, ← sz]
    exact Heap.get?_push_size _ rfl
  have z4 : p4.objs.size = hq.objs.size + 1 := by rw [← q4, Heap.size_push, sz]
  have k4 : ∀ b o, b ≠ e → b ≠ it → hq.get? b = some o → p4.get? b = some o := fun b o b1 b2 q => by
    rw [← q4]
    exact Heap.get?_push_of_some _ (sb3.extBut b o b1 (sb2.extBut b o b1 (sb1.extBut b o b2 q)))
  have ki4 : p4.IsListIter it la (i + 1) := by
    obtain ⟨o, r1, r2⟩ := (ki1.extBut sb2.extBut ne.symm).extBut sb3.extBut ne.symm
    rw [← q4]
    exact ⟨o, Heap.get?_push_of_some _ r1, r2⟩
  show wpAny (model prog w) A (Builtin.SmallTypes.ownedTupleIsFree (.ref e) >>= _) _ E ⟨p4, g, d, tq + 1, os⟩
  rw [sz]
  clear q4 ke3 sb3 ke2 sb2 ke1 sb1 ki1 sz p3 p2 p1
  refine wpAny_bind ?_
  unfold PySem.Builtin.SmallTypes.ownedTupleIsFree
  refine wpAny_bind (wpAny_field ke4 rfl (x := .none) rfl (wpAny_pure ?_))
  simp only [if_true]
  refine wpAny_bind (wpAny_rule (wpAny_bind (wpAny_field ke4 rfl (x := old) rfl (wpAny_bind (wpAny_setField_rec ke4 (by simp) fun p5 ke5 sb5 => ?_)))))
  replace sb5 : Heap.SameBut e p4 p5 := sb5
  replace ke5 : IsEnum p5 e it (n + 1) x := ke5
  show wpAny (model prog w) A (Builtin.SmallTypes.ownedTupleHandOut (.ref e) (.ref hq.objs.size) >>= _) _ E ⟨p5, g, d, tq + 1, os⟩
  refine wpAny_bind ?_
  unfold PySem.Builtin.SmallTypes.ownedTupleHandOut
  refine wpAny_bind (wpAny_setField_rec ke5 (by simp) fun p6 ke6 sb6 => ?_)
  replace sb6 : Heap.SameBut e p5 p6 := sb6
  replace ke6 : IsEnumOut p6 e it (n + 1) x hq.objs.size := ke6
  refine wpAny_setField_rec ke6 (by simp) fun p7 ke7 sb7 => ?_
  replace sb7 : Heap.SameBut e p6 p7 := sb7
  replace ke7 : IsEnumOut p7 e it (n + 1) x hq.objs.size := ke7
  have ltn := Nat.ne_of_gt lt
  refine wpAny_bind (wpAny_letGo (wpAny_pure ⟨_, rfl, kQ p7 ke7 (((ki4.extBut sb5.extBut ne.symm).extBut sb6.extBut ne.symm).extBut sb7.extBut ne.symm) (sb7.extBut _ _ ltn (sb6.extBut _ _ ltn (sb5.extBut _ _ ltn t4))) (by rw [sb7.1, sb6.1, sb5.1, z4])
    fun b o b1 b2 q => sb7.extBut b o b1 (sb6.extBut b o b1 (sb5.extBut b o b1 (k4 b o b1 b2 q)))⟩))
theorem pyNext_enumS_item {e it la : Addr} {i : Nat} {n : Int} {xs : Array Value} {x old : Value} {Q : Option Value → Shared → Prop} (ke : IsEnum s.heap e it n old) (ki : s.heap.IsListIter it la i) (kl : s.heap.IsList la xs) (kx : xs[i]? = some x) (ne : e ≠ it)
    (kQ : ∀ h', IsEnumOut h' e it (n + 1) x s.heap.objs.size → h'.IsListIter it la (i + 1) → h'.get? s.heap.objs.size = some { cls := .type "tuple", data := .seq #[.int n s.toks, x] } → h'.objs.size = s.heap.objs.size + 1 →
      (∀ ad ob, ad ≠ e → ad ≠ it → s.heap.get? ad = some ob → h'.get? ad = some ob) → Q (some (.ref s.heap.objs.size)) { s with heap := h', toks := s.toks + 1 }) : wpAny (model prog w) A (pyNext (.ref e)) Q E s := by
  have ty : s.TypeIs (.ref e) "enumerate" := ⟨_, ke, rfl⟩
  unfold pyNext
  exact wpAny_bind (wpAny_attempt (wpAny_callSpecial?_slot (name := Str.ofString "__next__") ty F.slot_enumerate_next (wpAny_call_entry F.slot_enumerate_next ty F.entry_enumerate_next
    (enumS_next ke ki kl kx ne fun h' a1 a2 a3 a4 a5 => wpAny_pure (kQ h' a1 a2 a3 a4 a5)) (F.args_enumerate_next_1 _))))
theorem pyNext_enumS_end {e it la : Addr} {i : Nat} {n : Int} {xs : Array Value} {old : Value} {Q : Option Value → Shared → Prop} (hh : A.handled = none) (ke : IsEnum s.heap e it n old) (ki : s.heap.IsListIter it la i) (kl : s.heap.IsList la xs) (kx : xs[i]? = none)
    (kQ : ∀ h', Heap.ExtBut it s.heap h' → Q none { s with heap := h' }) : wpAny (model prog w) A (pyNext (.ref e)) Q E s := by
  have ty : s.TypeIs (.ref e) "enumerate" := ⟨_, ke, rfl⟩
  unfold pyNext
  refine wpAny_bind (wpAny_attempt (wpAny_callSpecial?_slot (name := Str.ofString "__next__") ty F.slot_enumerate_next (wpAny_call_entry F.slot_enumerate_next ty F.entry_enumerate_next ?_ (F.args_enumerate_next_1 _))))
  show wpAny (model prog w) A.in1 (field (.ref e) 2 >>= _) _ _ s
  refine wpAny_bind (wpAny_field ke rfl (x := .ref it) rfl (wpAny_bind (wpAny_nextOf_list_end hh ki kl kx fun h' x q1 ⟨o, q2, q3⟩ => ?_)))
  exact wpAny_bind (wpAny_isInstance (T := "StopIteration") (b := true) ⟨o, q2, q3⟩ isSubtype_stop (wpAny_pure (kQ _ q1)))
end
end PB
set_option maxRecDepth 100000
set_option Elab.async false
namespace PB
open PySem
open Sem (wp)
abbrev IsTrip (h : Heap) (T : Addr) (a b c : Value) : Prop := h.get? T = some { cls := .type "tuple", data := .seq #[a, b, c] }
section
variable {prog : Program} {w : World} {A : Around} {E : Value → Shared → Prop} {s : Shared}
theorem updateSeq_trip {T : Addr} {a b c x : Value} {k : Nat} {Q : Unit → Shared → Prop} (kT : IsTrip s.heap T a b c)
    (h : ∀ h', h'.get? T = some { cls := .type "tuple", data := .seq ((#[a, b, c] : Array Value).setIfInBounds k x) } → Heap.SameBut T s.heap h' → Q () { s with heap := h' }) : wpAny (model prog w) A (updateSeq T (·.setIfInBounds k x)) Q E s := by
  refine wpAny_updateSeq kT rfl (h _ ?_ (Heap.SameBut.update ..))
  rw [Heap.get?_update_self _ kT rfl]
  simp [Obj.mapSeq]
structure Zip3Apart (zr tI tO i1 i2 i3 l1 l2 l3 : Addr) : Prop where
  TIz : tI ≠ zr
  TOz : tO ≠ zr
  i1z : i1 ≠ zr
  i2z : i2 ≠ zr
  i3z : i3 ≠ zr
  TITO : tI ≠ tO
  TIi1 : tI ≠ i1
  TIi2 : tI ≠ i2
  TIi3 : tI ≠ i3
  TOi1 : tO ≠ i1
  TOi2 : tO ≠ i2
  TOi3 : tO ≠ i3
  i12 : i1 ≠ i2
  i13 : i1 ≠ i3
  i23 : i2 ≠ i3
  l1z : l1 ≠ zr
  l1TO : l1 ≠ tO
  l1i1 : l1 ≠ i1
  l1i2 : l1 ≠ i2
  l1i3 : l1 ≠ i3
  l2z : l2 ≠ zr
  l2TO : l2 ≠ tO
  l2i1 : l2 ≠ i1
  l2i2 : l2 ≠ i2
  l2i3 : l2 ≠ i3
  l3z : l3 ≠ zr
  l3TO : l3 ≠ tO
  l3i1 : l3 ≠ i1
  l3i2 : l3 ≠ i2
  l3i3 : l3 ≠ i3
theorem zip3_next_item {zr tI tO i1 i2 i3 l1 l2 l3 : Addr} {k1 k2 k3 : Nat} {xs ys zs : Array Value} {x y v a b c : Value} {Q : Value → Shared → Prop} (D : Zip3Apart zr tI tO i1 i2 i3 l1 l2 l3)
    (kz : IsZip s.heap zr tI tO .none) (kI : IsTrip s.heap tI (.ref i1) (.ref i2) (.ref i3)) (kO : IsTrip s.heap tO a b c)
    (h1 : s.heap.IsListIter i1 l1 k1) (h2 : s.heap.IsListIter i2 l2 k2) (h3 : s.heap.IsListIter i3 l3 k3) (hl1 : s.heap.IsList l1 xs) (hl2 : s.heap.IsList l2 ys) (hl3 : s.heap.IsList l3 zs)
    (hx : xs[k1]? = some x) (hy : ys[k2]? = some y) (hv : zs[k3]? = some v)
    (hQ : ∀ h', IsZip h' zr tI tO (rawInt s.heap.objs.size) → IsTrip h' tO x y v → h'.IsListIter i1 l1 (k1 + 1) → h'.IsListIter i2 l2 (k2 + 1) → h'.IsListIter i3 l3 (k3 + 1) → IsTrip h' s.heap.objs.size x y v → h'.objs.size = s.heap.objs.size + 1 →
      (∀ c o, c ≠ zr → c ≠ tO → c ≠ i1 → c ≠ i2 → c ≠ i3 → s.heap.get? c = some o → h'.get? c = some o) → Q (.ref s.heap.objs.size) { s with heap := h' }) :
    wpAny (model prog w) A (Builtin.«zip.__next__» ⟨[.ref zr], []⟩) (fun fin s' => ∃ v, fin = .done (.ret v) ∧ Q v s') E s := by
  show wpAny _ _ (field (.ref zr) 2 >>= _) _ _ _
  refine wpAny_bind (wpAny_field kz rfl (x := .bool false) rfl ?_)
  show wpAny _ _ (field (.ref zr) 3 >>= _) _ _ _
  refine wpAny_bind (wpAny_field kz rfl (x := .ref tI) rfl ?_)
  refine wpAny_bind (wpAny_seqItems kI rfl ?_)
  show wpAny _ _ (Builtin.SmallTypes.ownedTupleIsFree (.ref zr) >>= _) _ _ _
  refine wpAny_bind ?_
  unfold PySem.Builtin.SmallTypes.ownedTupleIsFree
  refine wpAny_bind (wpAny_field kz rfl (x := .none) rfl (wpAny_pure ?_))
  simp only [if_true]
  refine wpAny_bind (wpAny_rule ?_)
  refine wpAny_bind (wpAny_field kz rfl (x := .ref tO) rfl ?_)
  refine wpAny_bind (wpAny_setField_rec kz (by simp) fun hx1 hzx1 hsx1 => ?_)
  replace hzx1 : IsZip hx1 zr tI tO .ellipsis := hzx1
  refine wpAny_bind ?_
  simp only [List.zipIdx_nil, List.forIn_cons, List.forIn_nil, List.zipIdx_cons]
  refine (wpAny_bind (wpAny_bind (wpAny_onRaise ?_)))
  show (wpAny _ _ (Builtin.SmallTypes.nextOf (.ref i1) >>= _) _ _ _)
  refine wpAny_bind (wpAny_nextOf_list_item (h1.extBut hsx1.extBut D.i1z) (hl1.extBut hsx1.extBut D.l1z) hx fun hx2 h1x2 hsx2 => wpAny_pure ?_)
  have hTOx2 : IsTrip hx2 tO a b c := hsx2.extBut _ _ D.TOi1 (hsx1.extBut _ _ D.TOz kO)
  refine wpAny_bind (wpAny_seqItems hTOx2 rfl ?_)
  refine wpAny_bind (updateSeq_trip hTOx2 fun hx3 hTOx3 hsx3 => ?_)
  replace hTOx3 : IsTrip hx3 tO x b c := hTOx3
  refine (wpAny_bind (wpAny_letGo (wpAny_pure ?_)))
  refine (wpAny_bind (wpAny_bind (wpAny_onRaise ?_)))
  show (wpAny _ _ (Builtin.SmallTypes.nextOf (.ref i2) >>= _) _ _ _)
  refine wpAny_bind (wpAny_nextOf_list_item (((h2.extBut hsx1.extBut D.i2z).extBut hsx2.extBut D.i12.symm).extBut hsx3.extBut D.TOi2.symm)
    (((hl2.extBut hsx1.extBut D.l2z).extBut hsx2.extBut D.l2i1).extBut hsx3.extBut D.l2TO) hy fun hx4 h2x4 hsx4 => wpAny_pure ?_)
  have hTOx4 : IsTrip hx4 tO x b c := hsx4.extBut _ _ D.TOi2 hTOx3
  refine wpAny_bind (wpAny_seqItems hTOx4 rfl ?_)
  refine wpAny_bind (updateSeq_trip hTOx4 fun hx5 hTOx5 hsx5 => ?_)
  replace hTOx5 : IsTrip hx5 tO x y c := hTOx5
  refine (wpAny_bind (wpAny_letGo (wpAny_pure ?_)))
  refine (wpAny_bind (wpAny_bind (wpAny_onRaise ?_)))
  show wpAny _ _ (Builtin.SmallTypes.nextOf (.ref i3) >>= _) _ _ _
  refine wpAny_bind (wpAny_nextOf_list_item (((((h3.extBut hsx1.extBut D.i3z).extBut hsx2.extBut D.i13.symm).extBut hsx3.extBut D.TOi3.symm).extBut hsx4.extBut D.i23.symm).extBut hsx5.extBut D.TOi3.symm)
    (((((hl3.extBut hsx1.extBut D.l3z).extBut hsx2.extBut D.l3i1).extBut hsx3.extBut D.l3TO).extBut hsx4.extBut D.l3i2).extBut hsx5.extBut D.l3TO) hv fun hx6 h3x6 hsx6 => wpAny_pure ?_)
  have hTOx6 : IsTrip hx6 tO x y c := hsx6.extBut _ _ D.TOi3 hTOx5
  refine wpAny_bind (wpAny_seqItems hTOx6 rfl ?_)
  refine wpAny_bind (updateSeq_trip hTOx6 fun hx7 hTOx7 hsx7 => ?_)
  replace hTOx7 : IsTrip hx7 tO x y v := hTOx7
  refine (wpAny_bind (wpAny_letGo (wpAny_pure (wpAny_pure ?_))))
  refine wpAny_bind (wpAny_seqItems hTOx7 rfl ?_)
  refine (wpAny_bind (wpAny_newTuple ?_))
  have hsz : hx7.objs.size = s.heap.objs.size := by rw [hsx7.1, hsx6.1, hsx5.1, hsx4.1, hsx3.1, hsx2.1, hsx1.1]
  have hzx7 : IsZip hx7 zr tI tO .ellipsis := hsx7.extBut _ _ D.TOz.symm (hsx6.extBut _ _ D.i3z.symm (hsx5.extBut _ _ D.TOz.symm (hsx4.extBut _ _ D.i2z.symm (hsx3.extBut _ _ D.TOz.symm (hsx2.extBut _ _ D.i1z.symm hzx1)))))
  have hkx7 : ∀ c o, c ≠ zr → c ≠ tO → c ≠ i1 → c ≠ i2 → c ≠ i3 → s.heap.get? c = some o → hx7.get? c = some o := fun c o c1 c2 c3 c4 c5 e =>
    hsx7.extBut _ _ c2 (hsx6.extBut _ _ c5 (hsx5.extBut _ _ c2 (hsx4.extBut _ _ c4 (hsx3.extBut _ _ c2 (hsx2.extBut _ _ c3 (hsx1.extBut _ _ c1 e))))))
  have h1x7 : hx7.IsListIter i1 l1 (k1 + 1) := ((((h1x2.extBut hsx3.extBut D.TOi1.symm).extBut hsx4.extBut D.i12).extBut hsx5.extBut D.TOi1.symm).extBut hsx6.extBut D.i13).extBut hsx7.extBut D.TOi1.symm
  have h2x7 : hx7.IsListIter i2 l2 (k2 + 1) := ((h2x4.extBut hsx5.extBut D.TOi2.symm).extBut hsx6.extBut D.i23).extBut hsx7.extBut D.TOi2.symm
  have h3x7 : hx7.IsListIter i3 l3 (k3 + 1) := h3x6.extBut hsx7.extBut D.TOi3.symm
  have hzlt : zr < hx7.objs.size := Heap.lt_size hzx7
  show wpAny _ _ (Builtin.SmallTypes.ownedTupleHandOut (.ref zr) (.ref hx7.objs.size) >>= _) _ _ _
  refine wpAny_bind ?_
  unfold PySem.Builtin.SmallTypes.ownedTupleHandOut
  have hzx8 : IsZip (hx7.push { cls := .type "tuple", data := .seq #[x, y, v] }) zr tI tO .ellipsis := Heap.get?_push_of_some _ hzx7
  refine wpAny_bind (wpAny_setField_rec hzx8 (by simp) fun hx9 hzx9 hsx9 => ?_)
  replace hzx9 : IsZip hx9 zr tI tO (rawInt hx7.objs.size) := hzx9
  refine wpAny_setField_rec hzx9 (by simp) fun hx8 hzx8 hsx8 => ?_
  replace hzx8 : IsZip hx8 zr tI tO (rawInt hx7.objs.size) := hzx8
  have up : ∀ c o, c ≠ zr → hx7.get? c = some o → hx8.get? c = some o := fun c o c1 e => hsx8.extBut _ _ c1 (hsx9.extBut _ _ c1 (Heap.get?_push_of_some _ e))
  have hTx8 : IsTrip hx8 hx7.objs.size x y v := hsx8.extBut _ _ (Nat.ne_of_gt hzlt) (hsx9.extBut _ _ (Nat.ne_of_gt hzlt) (Heap.get?_push_size _ rfl))
  have hz8 : hx8.objs.size = hx7.objs.size + 1 := by rw [hsx8.1, hsx9.1, Heap.size_push]
  rw [hsz] at hzx8 hTx8 hz8
  refine (wpAny_pure ⟨_, rfl, ?_⟩)
  show Q (.ref hx7.objs.size) _
  rw [hsz]
  exact hQ hx8 hzx8 (up _ _ D.TOz hTOx7) (h1x7.at fun o e => up _ o D.i1z e) (h2x7.at fun o e => up _ o D.i2z e) (h3x7.at fun o e => up _ o D.i3z e) hTx8 hz8 fun c o c1 c2 c3 c4 c5 e => up c o c1 (hkx7 c o c1 c2 c3 c4 c5 e)
theorem zip3_next_end {zr tI tO i1 i2 i3 l1 l2 l3 : Addr} {k1 k2 k3 : Nat} {xs ys zs : Array Value} {a b c : Value} {Q : Fin → Shared → Prop} (hh : A.handled = none) (D : Zip3Apart zr tI tO i1 i2 i3 l1 l2 l3)
    (kz : IsZip s.heap zr tI tO .none) (kI : IsTrip s.heap tI (.ref i1) (.ref i2) (.ref i3)) (kO : IsTrip s.heap tO a b c)
    (h1 : s.heap.IsListIter i1 l1 k1) (h2 : s.heap.IsListIter i2 l2 k2) (h3 : s.heap.IsListIter i3 l3 k3) (hl1 : s.heap.IsList l1 xs) (hl2 : s.heap.IsList l2 ys) (hl3 : s.heap.IsList l3 zs)
    (hend : xs[k1]? = none ∨ ys[k2]? = none ∨ zs[k3]? = none)
    (hE : ∀ h' e, (∀ c o, c ≠ zr → c ≠ tO → c ≠ i1 → c ≠ i2 → c ≠ i3 → s.heap.get? c = some o → h'.get? c = some o) → (∃ o, h'.get? e = some o ∧ o.cls = .type "StopIteration") → E (.ref e) { s with heap := h' }) :
    wpAny (model prog w) A (Builtin.«zip.__next__» ⟨[.ref zr], []⟩) Q E s := by
  show wpAny _ _ (field (.ref zr) 2 >>= _) _ _ _
  refine wpAny_bind (wpAny_field kz rfl (x := .bool false) rfl ?_)
  show wpAny _ _ (field (.ref zr) 3 >>= _) _ _ _
  refine wpAny_bind (wpAny_field kz rfl (x := .ref tI) rfl ?_)
  refine wpAny_bind (wpAny_seqItems kI rfl ?_)
  show wpAny _ _ (Builtin.SmallTypes.ownedTupleIsFree (.ref zr) >>= _) _ _ _
  refine wpAny_bind ?_
  unfold PySem.Builtin.SmallTypes.ownedTupleIsFree
  refine wpAny_bind (wpAny_field kz rfl (x := .none) rfl (wpAny_pure ?_))
  simp only [if_true]
  refine wpAny_bind (wpAny_rule ?_)
  refine wpAny_bind (wpAny_field kz rfl (x := .ref tO) rfl ?_)
  refine wpAny_bind (wpAny_setField_rec kz (by simp) fun hx1 hzx1 hsx1 => ?_)
  replace hzx1 : IsZip hx1 zr tI tO .ellipsis := hzx1
  refine wpAny_bind ?_
  simp only [List.zipIdx_nil, List.forIn_cons, List.forIn_nil, List.zipIdx_cons]
  refine (wpAny_bind (wpAny_bind (wpAny_onRaise ?_)))
  show (wpAny _ _ (Builtin.SmallTypes.nextOf (.ref i1) >>= _) _ _ _)
  cases hx : xs[k1]? with
  | none =>
    refine wpAny_bind (wpAny_nextOf_list_end hh (h1.extBut hsx1.extBut D.i1z) (hl1.extBut hsx1.extBut D.l1z) hx fun hx2 e hsx2 he => ?_)
    obtain ⟨oe, hoe, hce⟩ := he
    have hzx2 : IsZip hx2 zr tI tO .ellipsis := hsx2 _ _ D.i1z.symm hzx1
    have hez : e ≠ zr := fun x => by subst x; rw [hzx2] at hoe; cases hoe; simp at hce
    refine wpAny_setField_rec hzx2 (by simp) fun hx3 _ hsx3 => hE hx3 e (fun c o c1 _ c3 _ _ x => hsx3.extBut _ _ c1 (hsx2 _ _ c3 (hsx1.extBut _ _ c1 x))) ⟨oe, hsx3.extBut _ _ hez hoe, hce⟩
  | some x =>
    refine wpAny_bind (wpAny_nextOf_list_item (h1.extBut hsx1.extBut D.i1z) (hl1.extBut hsx1.extBut D.l1z) hx fun hx2 h1x2 hsx2 => wpAny_pure ?_)
    have hTOx2 : IsTrip hx2 tO a b c := hsx2.extBut _ _ D.TOi1 (hsx1.extBut _ _ D.TOz kO)
    refine wpAny_bind (wpAny_seqItems hTOx2 rfl ?_)
    refine wpAny_bind (updateSeq_trip hTOx2 fun hx3 hTOx3 hsx3 => ?_)
    replace hTOx3 : IsTrip hx3 tO x b c := hTOx3
    refine (wpAny_bind (wpAny_letGo (wpAny_pure ?_)))
    refine (wpAny_bind (wpAny_bind (wpAny_onRaise ?_)))
    show (wpAny _ _ (Builtin.SmallTypes.nextOf (.ref i2) >>= _) _ _ _)
    have q2 := ((h2.extBut hsx1.extBut D.i2z).extBut hsx2.extBut D.i12.symm).extBut hsx3.extBut D.TOi2.symm
    have p2 := ((hl2.extBut hsx1.extBut D.l2z).extBut hsx2.extBut D.l2i1).extBut hsx3.extBut D.l2TO
    cases hy : ys[k2]? with
    | none =>
      refine wpAny_bind (wpAny_nextOf_list_end hh q2 p2 hy fun hx4 e hsx4 he => ?_)
      obtain ⟨oe, hoe, hce⟩ := he
      have hzx4 : IsZip hx4 zr tI tO .ellipsis := hsx4 _ _ D.i2z.symm (hsx3.extBut _ _ D.TOz.symm (hsx2.extBut _ _ D.i1z.symm hzx1))
      have hez : e ≠ zr := fun x => by subst x; rw [hzx4] at hoe; cases hoe; simp at hce
      refine wpAny_setField_rec hzx4 (by simp) fun hx5 _ hsx5 => hE hx5 e (fun c o c1 c2 c3 c4 _ x => hsx5.extBut _ _ c1 (hsx4 _ _ c4 (hsx3.extBut _ _ c2 (hsx2.extBut _ _ c3 (hsx1.extBut _ _ c1 x))))) ⟨oe, hsx5.extBut _ _ hez hoe, hce⟩
    | some y =>
      have hv : zs[k3]? = none := by
        rcases hend with h | h | h
        · rw [hx] at h; cases h
        · rw [hy] at h; cases h
        · exact h
      refine wpAny_bind (wpAny_nextOf_list_item q2 p2 hy fun hx4 h2x4 hsx4 => wpAny_pure ?_)
      have hTOx4 : IsTrip hx4 tO x b c := hsx4.extBut _ _ D.TOi2 hTOx3
      refine wpAny_bind (wpAny_seqItems hTOx4 rfl ?_)
      refine wpAny_bind (updateSeq_trip hTOx4 fun hx5 hTOx5 hsx5 => ?_)
      refine (wpAny_bind (wpAny_letGo (wpAny_pure ?_)))
      refine (wpAny_bind (wpAny_bind (wpAny_onRaise ?_)))
      show wpAny _ _ (Builtin.SmallTypes.nextOf (.ref i3) >>= _) _ _ _
      refine wpAny_bind (wpAny_nextOf_list_end hh (((((h3.extBut hsx1.extBut D.i3z).extBut hsx2.extBut D.i13.symm).extBut hsx3.extBut D.TOi3.symm).extBut hsx4.extBut D.i23.symm).extBut hsx5.extBut D.TOi3.symm)
        (((((hl3.extBut hsx1.extBut D.l3z).extBut hsx2.extBut D.l3i1).extBut hsx3.extBut D.l3TO).extBut hsx4.extBut D.l3i2).extBut hsx5.extBut D.l3TO) hv fun hx6 e hsx6 he => ?_)
      obtain ⟨oe, hoe, hce⟩ := he
      have hzx6 : IsZip hx6 zr tI tO .ellipsis := hsx6 _ _ D.i3z.symm (hsx5.extBut _ _ D.TOz.symm (hsx4.extBut _ _ D.i2z.symm (hsx3.extBut _ _ D.TOz.symm (hsx2.extBut _ _ D.i1z.symm hzx1))))
      have hez : e ≠ zr := fun x => by subst x; rw [hzx6] at hoe; cases hoe; simp at hce
      refine wpAny_setField_rec hzx6 (by simp) fun hx7 _ hsx7 => hE hx7 e (fun c o c1 c2 c3 c4 c5 x => hsx7.extBut _ _ c1 (hsx6 _ _ c5 (hsx5.extBut _ _ c2 (hsx4.extBut _ _ c4 (hsx3.extBut _ _ c2 (hsx2.extBut _ _ c3 (hsx1.extBut _ _ c1 x))))))) ⟨oe, hsx7.extBut _ _ hez hoe, hce⟩
theorem pyNext_zip3_item {zr tI tO i1 i2 i3 l1 l2 l3 : Addr} {k1 k2 k3 : Nat} {xs ys zs : Array Value} {x y v a b c : Value} {Q : Option Value → Shared → Prop} (D : Zip3Apart zr tI tO i1 i2 i3 l1 l2 l3)
    (kz : IsZip s.heap zr tI tO .none) (kI : IsTrip s.heap tI (.ref i1) (.ref i2) (.ref i3)) (kO : IsTrip s.heap tO a b c)
    (h1 : s.heap.IsListIter i1 l1 k1) (h2 : s.heap.IsListIter i2 l2 k2) (h3 : s.heap.IsListIter i3 l3 k3) (hl1 : s.heap.IsList l1 xs) (hl2 : s.heap.IsList l2 ys) (hl3 : s.heap.IsList l3 zs)
    (hx : xs[k1]? = some x) (hy : ys[k2]? = some y) (hv : zs[k3]? = some v)
    (hQ : ∀ h', IsZip h' zr tI tO (rawInt s.heap.objs.size) → IsTrip h' tO x y v → h'.IsListIter i1 l1 (k1 + 1) → h'.IsListIter i2 l2 (k2 + 1) → h'.IsListIter i3 l3 (k3 + 1) → IsTrip h' s.heap.objs.size x y v → h'.objs.size = s.heap.objs.size + 1 →
      (∀ c o, c ≠ zr → c ≠ tO → c ≠ i1 → c ≠ i2 → c ≠ i3 → s.heap.get? c = some o → h'.get? c = some o) → Q (some (.ref s.heap.objs.size)) { s with heap := h' }) :
    wpAny (model prog w) A (pyNext (.ref zr)) Q E s := by
  have kT : s.TypeIs (.ref zr) "zip" := ⟨_, kz, rfl⟩
  unfold pyNext
  exact wpAny_bind (wpAny_attempt (wpAny_callSpecial?_slot (name := Str.ofString "__next__") kT F.slot_zip_next
    (wpAny_call_entry F.slot_zip_next kT F.entry_zip_next
      (zip3_next_item D kz kI kO h1 h2 h3 hl1 hl2 hl3 hx hy hv fun h' a1 a2 a3 a4 a5 a6 a7 a8 => wpAny_pure (hQ h' a1 a2 a3 a4 a5 a6 a7 a8)) (F.args_zip_next_1 _))))
theorem pyNext_zip3_end {zr tI tO i1 i2 i3 l1 l2 l3 : Addr} {k1 k2 k3 : Nat} {xs ys zs : Array Value} {a b c : Value} {Q : Option Value → Shared → Prop} (hh : A.handled = none) (D : Zip3Apart zr tI tO i1 i2 i3 l1 l2 l3)
    (kz : IsZip s.heap zr tI tO .none) (kI : IsTrip s.heap tI (.ref i1) (.ref i2) (.ref i3)) (kO : IsTrip s.heap tO a b c)
    (h1 : s.heap.IsListIter i1 l1 k1) (h2 : s.heap.IsListIter i2 l2 k2) (h3 : s.heap.IsListIter i3 l3 k3) (hl1 : s.heap.IsList l1 xs) (hl2 : s.heap.IsList l2 ys) (hl3 : s.heap.IsList l3 zs)
    (hend : xs[k1]? = none ∨ ys[k2]? = none ∨ zs[k3]? = none)
    (hQ : ∀ h', (∀ c o, c ≠ zr → c ≠ tO → c ≠ i1 → c ≠ i2 → c ≠ i3 → s.heap.get? c = some o → h'.get? c = some o) → Q none { s with heap := h' }) : wpAny (model prog w) A (pyNext (.ref zr)) Q E s := by
  have kT : s.TypeIs (.ref zr) "zip" := ⟨_, kz, rfl⟩
  unfold pyNext
  refine wpAny_bind (wpAny_attempt (wpAny_callSpecial?_slot (name := Str.ofString "__next__") kT F.slot_zip_next
    (wpAny_call_entry F.slot_zip_next kT F.entry_zip_next (zip3_next_end hh D kz kI kO h1 h2 h3 hl1 hl2 hl3 hend fun h' e hk he => ?_) (F.args_zip_next_1 _))))
  obtain ⟨o, ho, hc⟩ := he
  refine (wpAny_bind (wpAny_isInstance (T := "StopIteration") (b := true) ⟨o, ho, hc⟩ isSubtype_stop ?_))
  exact wpAny_pure (hQ _ hk)
end
theorem typeCall_zip_3 (a b c : Value) : checkTypeCall "zip" ⟨[a, b, c], []⟩ = pure () := by kernel_rfl
theorem newCall_zip_3 (a b c : Value) : checkBuiltinCall "zip.__new__" ⟨[.type "zip", a, b, c], []⟩ = pure () := by kernel_rfl
theorem args_object_init_4 (a b c d : Value) : argsOk "object.__init__" ⟨[a, b, c, d], []⟩ := by
  unfold argsOk; rw [signature?_of (id := "object.__init__") (n := ['_', '_', 't', 'i', 'n', 'i', '_', '_']) (o := ['t', 'c', 'e', 'j', 'b', 'o']) (by kernel_rfl) F.owner_object]; kernel_rfl
abbrev z3H1 (h : Heap) (l1 : Addr) : Heap := h.push { cls := .type "list_iterator", data := .fields #[.ref l1, .int 0 0] }
abbrev z3H2 (h : Heap) (l1 l2 : Addr) : Heap := (z3H1 h l1).push { cls := .type "list_iterator", data := .fields #[.ref l2, .int 0 0] }
abbrev z3H3 (h : Heap) (l1 l2 l3 : Addr) : Heap := (z3H2 h l1 l2).push { cls := .type "list_iterator", data := .fields #[.ref l3, .int 0 0] }
abbrev z3H4 (h : Heap) (l1 l2 l3 : Addr) : Heap := (z3H3 h l1 l2 l3).push { cls := .type "tuple", data := .seq #[.ref h.objs.size, .ref (z3H1 h l1).objs.size, .ref (z3H2 h l1 l2).objs.size] }
abbrev z3H5 (h : Heap) (l1 l2 l3 : Addr) : Heap := (z3H4 h l1 l2 l3).push { cls := .type "tuple", data := .seq #[.none, .none, .none] }
abbrev z3H6 (h : Heap) (l1 l2 l3 : Addr) : Heap := (z3H5 h l1 l2 l3).push { cls := .type "zip", data := .fields #[.none, .bool false, .bool false, .ref (z3H3 h l1 l2 l3).objs.size, .ref (z3H4 h l1 l2 l3).objs.size] }
theorem meets_zip3_new (l1 l2 l3 : Addr) (xs ys zs : Array Value) :
    Meets (Builtin.«zip.__new__» ⟨[.type "zip", .ref l1, .ref l2, .ref l3], []⟩) (fun _ R s => s.heap.IsList l1 xs ∧ s.heap.IsList l2 ys ∧ s.heap.IsList l3 zs ∧
      R (.ok (.ret (.ref (z3H5 s.heap l1 l2 l3).objs.size))) { s with heap := z3H6 s.heap l1 l2 l3 }) :=
  .of_wp fun prog w A R s h => by
    obtain ⟨hq, g, d, tq, os⟩ := s; obtain ⟨hl1, hl2, hl3, h⟩ := h
    have hsub := sub_zip
    have kL1 : Heap.IsList (Shared.heap ⟨hq, g, d, tq, os⟩) l1 xs := hl1
    have kL2 : Heap.IsList (Shared.heap ⟨hq.push { cls := .type "list_iterator", data := .fields #[.ref l1, .int 0 0] }, g, d, tq, os⟩) l2 ys := Heap.IsList.push hl2 _
    have kL3 : Heap.IsList (Shared.heap ⟨(hq.push { cls := .type "list_iterator", data := .fields #[.ref l1, .int 0 0] }).push { cls := .type "list_iterator", data := .fields #[.ref l2, .int 0 0] }, g, d, tq, os⟩) l3 zs := Heap.IsList.push (Heap.IsList.push hl3 _) _
    wp_walk using wpAny_pyIter_list kL1, wpAny_pyIter_list kL2, wpAny_pyIter_list kL3
    exact ⟨_, rfl, h⟩
section
variable {prog : Program} {w : World} {A : Around} {E : Value → Shared → Prop} {s : Shared}
theorem call_zip_3 {l1 l2 l3 : Addr} {xs ys zs : Array Value} {Q : Value → Shared → Prop} (hl1 : s.heap.IsList l1 xs) (hl2 : s.heap.IsList l2 ys) (hl3 : s.heap.IsList l3 zs)
    (h : ∀ h', IsZip h' (s.heap.objs.size + 5) (s.heap.objs.size + 3) (s.heap.objs.size + 4) .none → IsTrip h' (s.heap.objs.size + 3) (.ref s.heap.objs.size) (.ref (s.heap.objs.size + 1)) (.ref (s.heap.objs.size + 2)) →
      IsTrip h' (s.heap.objs.size + 4) .none .none .none → h'.IsListIter s.heap.objs.size l1 0 → h'.IsListIter (s.heap.objs.size + 1) l2 0 → h'.IsListIter (s.heap.objs.size + 2) l3 0 → h'.objs.size = s.heap.objs.size + 6 →
      (∀ c o, s.heap.get? c = some o → h'.get? c = some o) → Q (.ref (s.heap.objs.size + 5)) { s with heap := h' }) :
    wpAny (model prog w) A (call (.type "zip") [.ref l1, .ref l2, .ref l3]) Q E s := by
  refine callType_new F.called_zip (by decide) (typeCall_zip_3 _ _ _) (newCall_zip_3 _ _ _) (fun obj => args_object_init_4 obj _ _ _) F.entry_zip_new
    (meets_zip3_new l1 l2 l3 xs ys zs) ⟨hl1, hl2, hl3, ?_⟩
  have z1 : (z3H1 s.heap l1).objs.size = s.heap.objs.size + 1 := Heap.size_push ..
  have z2 : (z3H2 s.heap l1 l2).objs.size = s.heap.objs.size + 2 := by rw [Heap.size_push, z1]
  have z3 : (z3H3 s.heap l1 l2 l3).objs.size = s.heap.objs.size + 3 := by rw [Heap.size_push, z2]
  have z4 : (z3H4 s.heap l1 l2 l3).objs.size = s.heap.objs.size + 4 := by rw [Heap.size_push, z3]
  have z5 : (z3H5 s.heap l1 l2 l3).objs.size = s.heap.objs.size + 5 := by rw [Heap.size_push, z4]
  have z6 : (z3H6 s.heap l1 l2 l3).objs.size = s.heap.objs.size + 6 := by rw [Heap.size_push, z5]
  have g6 : (z3H6 s.heap l1 l2 l3).get? (z3H5 s.heap l1 l2 l3).objs.size = some _ := Heap.get?_push_size _ rfl
  have g5 : (z3H6 s.heap l1 l2 l3).get? (z3H4 s.heap l1 l2 l3).objs.size = some _ := Heap.get?_push_of_some _ (Heap.get?_push_size _ rfl)
  have g4 : (z3H6 s.heap l1 l2 l3).get? (z3H3 s.heap l1 l2 l3).objs.size = some _ := Heap.get?_push_of_some _ (Heap.get?_push_of_some _ (Heap.get?_push_size _ rfl))
  have g3 : (z3H6 s.heap l1 l2 l3).get? (z3H2 s.heap l1 l2).objs.size = some _ := Heap.get?_push_of_some _ (Heap.get?_push_of_some _ (Heap.get?_push_of_some _ (Heap.get?_push_size _ rfl)))
  have g2 : (z3H6 s.heap l1 l2 l3).get? (z3H1 s.heap l1).objs.size = some _ := Heap.get?_push_of_some _ (Heap.get?_push_of_some _ (Heap.get?_push_of_some _ (Heap.get?_push_of_some _ (Heap.get?_push_size _ rfl))))
  have g1 : (z3H6 s.heap l1 l2 l3).get? s.heap.objs.size = some _ := Heap.get?_push_of_some _ (Heap.get?_push_of_some _ (Heap.get?_push_of_some _ (Heap.get?_push_of_some _ (Heap.get?_push_of_some _ (Heap.get?_push_size _ rfl)))))
  show _ ∧ _
  rw [z3, z4, z5] at g6
  rw [z1, z2, z3] at g4
  rw [z4] at g5
  rw [z2] at g3
  rw [z1] at g2
  rw [z5]
  exact ⟨⟨_, g6, rfl⟩, h _ g6 g4 g5 ⟨_, g1, rfl, rfl⟩ ⟨_, g2, rfl, rfl⟩ ⟨_, g3, rfl, rfl⟩ z6 fun c o x =>
    Heap.get?_push_of_some _ (Heap.get?_push_of_some _ (Heap.get?_push_of_some _ (Heap.get?_push_of_some _ (Heap.get?_push_of_some _ (Heap.get?_push_of_some _ x)))))⟩
theorem zip3_apart (n a b c : Nat) (la : a < n) (lb : b < n) (lc : c < n) : Zip3Apart (n + 5) (n + 3) (n + 4) n (n + 1) (n + 2) a b c := by
  have key : ∀ x y : Nat, x < y → x ≠ y := fun x y h => Nat.ne_of_lt h
  have key2 : ∀ x y : Nat, y < x → x ≠ y := fun x y h => Nat.ne_of_gt h
  constructor
  all_goals (first | (refine key _ _ ?_; omega) | (refine key2 _ _ ?_; omega))
end
end PB
set_option Elab.async false
set_option linter.all false
set_option maxRecDepth 100000
set_option maxHeartbeats 2000000
namespace L2
open PySem PySem.Spec PyProof.Rows
def CDivB (i j : Int) : Prop := 0 < j ∧ (j < 2 ^ 64 ∨ (-(2 ^ 128) < i ∧ i < 2 ^ 128))
theorem noPylong_num {x y : Int} (h1 : -(2 ^ 128) < x) (h2 : x < 2 ^ 128) : Builtin.divisionGoesByPylong x y = false := by
  have hn : x.natAbs < 2 ^ 128 := by omega
  have key : (if x == 0 then 0 else x.natAbs.log2 / 30 + 1) ≤ 5 := by
    by_cases hx : (x == 0) = true
    · rw [if_pos hx]; exact Nat.zero_le _
    · rw [if_neg hx]
      have h0 : x.natAbs ≠ 0 := fun e => hx (by rw [Int.natAbs_eq_zero.mp e]; rfl)
      have : x.natAbs.log2 < 128 := (Nat.log2_lt h0).mpr hn
      omega
  have d : decide ((if x == 0 then 0 else x.natAbs.log2 / 30 + 1) > (if y == 0 then 0 else y.natAbs.log2 / 30 + 1) + 150) = false := decide_eq_false (by omega)
  show (_ && decide ((if x == 0 then 0 else x.natAbs.log2 / 30 + 1) > (if y == 0 then 0 else y.natAbs.log2 / 30 + 1) + 150)) = false
  rw [d]
  exact Bool.and_false _
theorem noPylong_den {x y : Int} (h1 : 0 < y) (h2 : y < 2 ^ 64) : Builtin.divisionGoesByPylong x y = false := by
  refine PyProof.noPylong_of_log2 ?_
  have h0 : y.natAbs ≠ 0 := by omega
  have : y.natAbs.log2 < 64 := (Nat.log2_lt h0).mpr (by omega)
  omega
theorem op_fdivB {X : Cx} : OpR X (binaryOp .FloorDiv) (rI CDivB fun i j => .int (i / j)) := opI fun i j _ _ _ _ _ hc q => by
  have h1 : (0 : Int) < j := hc.1
  refine floordiv_int (by omega) (by rw [Int.fdiv_eq_ediv_of_nonneg i (by omega)]; exact q) (.inl ?_)
  rcases hc.2 with h | h
  · exact noPylong_den h1 h
  · exact noPylong_num h.1 h.2
section
variable {X : Cx}
theorem meets_len_T {prog : Program} {w : World} {knd : HeapKind prog w (List Key)} {d : Addr} (hd : (d == sysModules) = false) :
    MeetsIn prog w (Builtin.«dict.__len__» ⟨[.ref d], []⟩) (fun _ R s => ∃ xs, s.heap.DictOfH knd d xs ∧ R (.ok (.ret (.int xs.length s.toks))) { s with toks := s.toks + 1 }) :=
  .of_wp fun A R s ⟨xs, hm, h⟩ => by
    obtain ⟨o, es, ep, ho, hc, hdat, he, hk, hn⟩ := hm
    show (wpAny _ _ (dictSize d >>= _) _ _ s)
    unfold dictSize
    refine (wpAny_bind (wpAny_bind (wpAny_dictEntries ho hdat (wpAny_pure ?_))))
    show (wpAny _ _ (Builtin.Dict.pendingCount d >>= _) _ _ s)
    refine (wpAny_bind (wpAny_pendingCount_other hd ?_))
    refine wpAny_ret_mkInt ?_
    have : es.size = xs.length := size_of_entries he
    rw [Nat.add_zero, this]
    exact h
theorem call_lenT : CallR X (.builtin "len") (fun xs H Q => ∃ a kvs, xs = [V.ref a] ∧ H a = some (.dT kvs) ∧ Q (.int kvs.length) H) := by
  intro pins s σ H vs us Q I rv h
  obtain ⟨a, kvs, rfl, e, q⟩ := h
  obtain ⟨u, rfl, ru⟩ := vals1 rv
  cases ru
  obtain ⟨z, hd, xs, rel, dd⟩ := dt_of I.hok e
  have hl : kvs.length = xs.length := Paired.length rel
  have hfit : ((xs.length : Nat) : Int) < 2 ^ 63 := by rw [← hl]; rw [sizeLine_eq] at z; omega
  refine (Calls.call_function_entry kind_len plain_len entry_len (args_len1 _) ?_)
  unfold Builtin.«len»
  refine (wpAny_bind (m := oneArg "len" _) (wpAny_pure ?_))
  refine wpAny_bind (m := callSpecial? (.ref a) (Str.ofString "__len__")) (wpAny_callSpecial?_slot (name := Str.ofString "__len__") dd.typeIs PySem.F.slot_dict_len
    (call_meetsIn PySem.F.slot_dict_len dd.typeIs PySem.F.entry_dict_len (PySem.F.args_dict_len_1 _) (meets_len_T hd) ⟨xs, dd, ?_⟩))
  show (wpAny _ _ _ _ _ { s with toks := s.toks + 1 })
  refine (wpAny_bind (wpAny_holding (wpAny_pure ?_)))
  refine wpAny_bind (wpAny_letGo ?_)
  show wpAny _ _ (if ((xs.length : Nat) : Int) < 0 then _ else _) _ _ _
  rw [if_neg (by omega)]
  show wpAny _ _ (if ((xs.length : Nat) : Int) ≥ 2 ^ 63 then _ else _) _ _ _
  rw [if_neg (by omega)]
  refine (wpAny_bind (wpAny_mkInt (wpAny_pure ⟨_, rfl, ?_⟩)))
  exact ⟨.int kvs.length, H, I.tok _, ⟨_, by rw [hl]⟩, q⟩
def rGetL (K : PySem.W.Frag) : V → V → Hp → VK → Prop := fun o i H Q => ∃ p xs k v, o = .ref p ∧ i = .int ((k : Nat) : Int) ∧ SqL K H p xs ∧ xs[k]? = some v ∧ Q v H
theorem get_list : PGet X (rGetL X.K) := by
  intro pins s σ H o i ov iv Q I ro ri h
  obtain ⟨p, xs, k, v, rfl, rfl, hq, he, q⟩ := h
  cases ro
  obtain ⟨t, rfl⟩ := ri
  obtain ⟨its, r, pl, hz⟩ := I.list hq
  obtain ⟨w, ew, rw'⟩ := r.get he
  have hk : k < xs.length := (List.getElem?_eq_some_iff.mp he).1
  have hn := line63
  exact getItem_listL pl.isList (by omega) (by omega) (by simpa using ew) ⟨v, H, I, rw', q⟩
def tCallV (P : Program) (w : World) (K : PySem.W.Frag) (mg : Str → Option Value) (base : Heap) (k i : Nat) (t : TA) : TE := fun σ H Q =>
  ∃ (f : Addr) (fd : FuncData) (ps : List Str) (sp : Sp), σ[i]? = some (some (.ref f)) ∧ FnOk P w K mg base CX0 k f fd ps sp ∧ PySem.W.keepIn K (.ref f) = true ∧ Binds K fd ps [] ∧ t σ H fun vs H1 => sp vs H1 Q E0
theorem pe_callV {k i : Nat} {x : Str} {p pos : Pos} {e : Expr} {es : List Expr} {t : TA} (hN : X.N[i]? = some x) (hv : Vis X.env.scope x) (hr : Room k X.A) (ha : PA X (e :: es) t)
    (hd : (x == ("__debug__" : Str)) = false := by decide) (hcd : (x == ("__classdict__" : Str)) = false := by decide)
    (he : starEach (e :: es) X.env = (false, eval e X.env) :: starEach es X.env := by rfl) (hpl : (backTo pos (starEach es X.env)).any (·.1) = false := by rfl) :
    PE X (.Call (.Name x p) (e :: es) [] pos) (tCallV X.prog X.w X.K X.mg X.base k i t) := by
  intro pins s σ H Q I h
  obtain ⟨f, fd, ps, sp, hs, F, hk, hb, h⟩ := h
  refine wpAny_Call_Name_kw (thn (pe_var hN hv hd hcd pins s σ H (fun v H' => v = .ref f ∧ H' = H) I ⟨.ref f, hs, rfl, rfl⟩) fun u s0 ⟨v, H0, I0, r0, ev, eh⟩ => ?_)
  subst ev eh
  cases r0
  refine PySem.W.callWith_K (h₀ := X.base) I0.ok.mod.kin hk (thn (ha pos pins s0 σ H0 _ I0 h) fun us s1 ⟨vs, H1, I1, r, q⟩ => ⟨I1.kIn, ?_⟩) he hpl
  exact run_fn (dvs := []) (ds := []) F hr hb .nil pass0 I1 r (by rw [List.append_nil]; exact q)
end
def Ites (K : PySem.W.Frag) (n : Int) (a : Addr) : It :=
  ⟨fun i H => ∃ (xs : List V) (x : V), SqL K H a xs ∧ xs[i]? = some x, fun i H v H' => ∃ T x, v = .ref T ∧ H T = none ∧ H' = upd H T (.tup [.int (n + (i : Nat)), x]) ∧ ∀ xs, SqL K H a xs → xs[i]? = some x, fun i H => ∃ xs : List V, SqL K H a xs ∧ xs.length ≤ i⟩
theorem turn_enumS {P : Program} {w : World} {K : PySem.W.Frag} {elts : List Expr} {kk : Nat} {tpos : Pos} (n : Int) (a e it : Addr) :
    Turn P w K (.Tuple elts kk tpos) (Ites K n a) [e, it] e (fun i h => (∃ old, IsEnum h e it (n + ((i : Nat) : Int)) old) ∧ h.IsListIter it a i ∧ e ≠ it) where
  mem := by simp
  obj := fun i h st b hb => by
    obtain ⟨⟨old, he⟩, ⟨o, ho, hc, hd⟩, _⟩ := st
    have e' : b = e ∨ b = it := by simpa using hb
    rcases e' with z | z
    · rw [z]; exact ⟨_, he, fun v q => nomatch q⟩
    · rw [z]; exact ⟨o, ho, fun v q => by rw [hd] at q; cases q⟩
  keep := fun i h h' st k => let ⟨⟨old, he⟩, hi, hne⟩ := st; ⟨⟨old, k e (by simp) _ he⟩, hi.at fun o q => k it (by simp) o q, hne⟩
  item := by
    intro X hP hw hK hc i pins s σ H E I hf st hg
    subst hP hw hK
    obtain ⟨⟨old, he⟩, hit, hne⟩ := st
    obtain ⟨xs, x, hq, hx⟩ := hg
    obtain ⟨its, rv, p, hz⟩ := I.list hq
    obtain ⟨u, hu, ru⟩ := rv.get hx
    have hel : e < s.heap.objs.size := Heap.lt_size he
    have hil : it < s.heap.objs.size := by obtain ⟨_, q, _⟩ := hit; exact Heap.lt_size q
    refine PB.pyNext_enumS_item he hit p.isList (x := u) (by simpa using hu) hne fun h' ho hit' hT hsz hk => ?_
    refine ⟨_, rfl, wpAny_letOwnedTupleGo_enum (s := { s with heap := h', toks := s.toks + 1 }) ho fun h'' he' sb => ?_⟩
    have hT2 : h''.get? s.heap.objs.size = some { cls := .type "tuple", data := .seq #[.int (n + (i : Nat)) s.toks, u] } := (sb.2 _ (Nat.ne_of_gt hel)).trans hT
    have new : ObjOk X.prog X.w (upd H s.heap.objs.size (.tup [.int (n + (i : Nat)), x])) h'' s.heap.objs.size (.tup [.int (n + (i : Nat)), x]) :=
      ⟨by show 2 ≤ sizeLine; decide, [.int (n + (i : Nat)) s.toks, u], .cons ⟨_, rfl⟩ (.cons ru .nil), ⟨_, hT2, rfl, _, rfl⟩⟩
    have I1 : Inv X pins σ (upd H s.heap.objs.size (.tup [.int (n + (i : Nat)), x])) { s with heap := h'', toks := s.toks + 1 } :=
      I.turnedNew (ch := [e, it]) (fun b ob hb q => (sb.2 b (fun z => hb (by simp [z]))).trans (hk b ob (fun z => hb (by simp [z])) (fun z => hb (by simp [z])) q)) hf (Nat.le_refl _) new
    refine ⟨.ref s.heap.objs.size, _, I1, rfl, ⟨_, x, rfl, I.hok.fresh (Nat.le_refl _), rfl, fun ys hy => by rw [I.list_inj hy hq]; exact hx⟩, ⟨⟨u, ?_⟩, hit'.at fun o q => (sb.2 it (Ne.symm hne)).trans q, hne⟩, fun b hb => ?_⟩
    · have e1 : n + ((i + 1 : Nat) : Int) = n + (i : Int) + 1 := by omega
      rw [e1]; exact he'
    · have hb' : b < s.heap.objs.size := by
        have e' : b = e ∨ b = it := by simpa using hb
        rcases e' with z | z
        · rw [z]; exact hel
        · rw [z]; exact hil
      rw [upd_ne (Nat.ne_of_lt hb')]
      exact (hf b hb).1
  done := by
    intro X hP hw hK hc i pins s σ H E I hf st hg
    subst hP hw hK
    obtain ⟨⟨old, he⟩, hit, hne⟩ := st
    obtain ⟨xs, hq, hx⟩ := hg
    obtain ⟨its, rv, p, hz⟩ := I.list hq
    obtain ⟨f0, f1, f2, f3, f4, f5⟩ := hf it (by simp)
    have hl := rv.length
    exact PB.pyNext_enumS_end (I.ok.hd hc) he hit p.isList (by simp; omega) fun h' eb => ⟨rfl, I.turned (t' := s.toks) (fun b o hb q => eb b o hb q) f0 f1 f3 f4 f5⟩
  self := fun A i s Q E st h => let ⟨⟨_, he⟩, _⟩ := st; wpAny_pyIter_enum he h
def iEnumS (K : PySem.W.Frag) (ta tk : TA) : TI := fun σ H R => ta σ H fun vs H1 => tk σ H1 fun zs H2 => ∃ a xs n, vs = [.ref a] ∧ zs = [.int n] ∧ Builtin.SmallTypes.fitsIndex n = true ∧ SqL K H2 a xs ∧ R (Ites K n a) H2
theorem pi_enumS {X : Cx} {e e1 : Expr} {ta tk : TA} {p pos tpos kpos : Pos} {elts : List Expr} {kk : Nat} (hg : Gl X "enumerate") (hm : X.mg "enumerate" = none) (ha : PA X [e] ta) (hk : PK X [⟨some (Str.ofString "start"), e1, kpos⟩] tk)
    (hs : starEach [e] X.env = [(false, eval e X.env)] := by rfl)
    (hall : (backToKw pos (keywordEach [⟨some (Str.ofString "start"), e1, kpos⟩] X.env)).all (·.1.isSome) = true := by rfl) (hks : (backToKw pos (keywordEach [⟨some (Str.ofString "start"), e1, kpos⟩] X.env)).filterMap (·.1) = [Str.ofString "start"] := by rfl)
    (hpl : ((backTo pos (starEach [e] X.env)).any (·.1) || (backToKw pos (keywordEach [⟨some (Str.ofString "start"), e1, kpos⟩] X.env)).any (·.1.isNone)) = false := by rfl) :
    PI X (.Tuple elts kk tpos) (.Call (.Name "enumerate" p) [e] [⟨some (Str.ofString "start"), e1, kpos⟩] pos) (iEnumS X.K ta tk) := by
  intro pins s σ H R I h
  refine wpAny_Call_Name_kw (ld_blt I hg hm boot_enumerate ?_)
  refine PySem.W.callWith_of (P := X.K.In) hpl (fun _ _ => ⟨Keeper.machine, .inr (.inl rfl), .now⟩) (evalArgs_kw2 hall (thn (ha pos pins s σ H _ I h) fun us s1 ⟨vs, H1, I1, r, q⟩ => thn (hk pos pins s1 σ H1 _ I1 q) fun ws s2 ⟨zs, H2, I2, rz, q2⟩ => ⟨I2.kIn, ?_⟩) (by rw [hs]; rfl))
  obtain ⟨a, xs, n, ex, ez, hn, hq, q3⟩ := q2
  subst ex ez
  rw [hks]
  obtain ⟨u, rfl, ru⟩ := vals1 r
  obtain ⟨w1, rfl, rw1⟩ := vals1 rz
  cases ru
  obtain ⟨tt, rfl⟩ := rw1
  obtain ⟨its, rv, p', hz⟩ := I2.list hq
  refine PB.call_enum_start hn p'.isList fun h' he hit hsz hk2 => wpAny_pyIter_enum he ?_
  have I3 : Inv X pins σ H2 { s2 with heap := h' } := I2.kept (t' := s2.toks) hk2
  refine ⟨s2.heap.objs.size + 1, [s2.heap.objs.size + 1, s2.heap.objs.size], _, _, H2, rfl, I3, turn_enumS n a (s2.heap.objs.size + 1) s2.heap.objs.size, ⟨⟨.none, by rw [Int.natCast_zero, Int.add_zero]; exact he⟩, hit, Nat.succ_ne_self _⟩, fun b hb => ?_, q3⟩
  have e' : b = s2.heap.objs.size + 1 ∨ b = s2.heap.objs.size := by simpa using hb
  have hle : s2.heap.objs.size ≤ b := by
    rcases e' with z | z
    · rw [z]; exact Nat.le_add_right _ _
    · rw [z]; exact Nat.le_refl _
  exact I2.fpOk hle (I2.hok.fresh hle)
def Itz3 (K : PySem.W.Frag) (a b c : Addr) : It :=
  ⟨fun i H => ∃ (xs ys zs : List V) (x y z : V), SqL K H a xs ∧ SqL K H b ys ∧ SqL K H c zs ∧ xs[i]? = some x ∧ ys[i]? = some y ∧ zs[i]? = some z,
    fun i H v H' => ∃ T x y z, v = .ref T ∧ H T = none ∧ H' = upd H T (.tup [x, y, z]) ∧ (∀ xs, SqL K H a xs → xs[i]? = some x) ∧ (∀ ys, SqL K H b ys → ys[i]? = some y) ∧ ∀ zs, SqL K H c zs → zs[i]? = some z,
    fun i H => ∃ xs ys zs : List V, SqL K H a xs ∧ SqL K H b ys ∧ SqL K H c zs ∧ (xs.length ≤ i ∨ ys.length ≤ i ∨ zs.length ≤ i)⟩
theorem turn_zip3 {P : Program} {w : World} {K : PySem.W.Frag} {elts : List Expr} {kk : Nat} {tpos : Pos} {a b c z TI TO i1 i2 i3 : Addr} (D : PB.Zip3Apart z TI TO i1 i2 i3 a b c) :
    Turn P w K (.Tuple elts kk tpos) (Itz3 K a b c) [z, TI, TO, i1, i2, i3] z (fun i h => IsZip h z TI TO .none ∧ PB.IsTrip h TI (.ref i1) (.ref i2) (.ref i3) ∧ (∃ x y v, PB.IsTrip h TO x y v) ∧ h.IsListIter i1 a i ∧ h.IsListIter i2 b i ∧ h.IsListIter i3 c i) where
  mem := by simp
  obj := fun i h st d hc => by
    obtain ⟨hz, hTI, ⟨x, y, v, hTO⟩, ⟨o1, e1, _, d1⟩, ⟨o2, e2, _, d2⟩, ⟨o3, e3, _, d3⟩⟩ := st
    have e' : d = z ∨ d = TI ∨ d = TO ∨ d = i1 ∨ d = i2 ∨ d = i3 := by simpa using hc
    rcases e' with q | q | q | q | q | q
    · rw [q]; exact ⟨_, hz, fun v q => nomatch q⟩
    · rw [q]; exact ⟨_, hTI, fun v q => nomatch q⟩
    · rw [q]; exact ⟨_, hTO, fun v q => nomatch q⟩
    · rw [q]; exact ⟨o1, e1, fun v q => by rw [d1] at q; cases q⟩
    · rw [q]; exact ⟨o2, e2, fun v q => by rw [d2] at q; cases q⟩
    · rw [q]; exact ⟨o3, e3, fun v q => by rw [d3] at q; cases q⟩
  keep := fun i h h' st k => by
    obtain ⟨hz, hTI, ⟨x, y, v, hTO⟩, h1, h2, h3⟩ := st
    exact ⟨k z (by simp) _ hz, k TI (by simp) _ hTI, ⟨x, y, v, k TO (by simp) _ hTO⟩, h1.at fun o q => k i1 (by simp) o q, h2.at fun o q => k i2 (by simp) o q, h3.at fun o q => k i3 (by simp) o q⟩
  item := by
    intro X hP hw hK hc i pins s σ H E I hf st hg
    subst hP hw hK
    obtain ⟨hz, hTI, ⟨x0, y0, v0, hTO⟩, h1, h2, h3⟩ := st
    obtain ⟨xs, ys, zs, x, y, v, hqx, hqy, hqz, hx, hy, hv⟩ := hg
    obtain ⟨its, rv, p, _⟩ := I.list hqx
    obtain ⟨its2, rv2, p2, _⟩ := I.list hqy
    obtain ⟨its3, rv3, p3, _⟩ := I.list hqz
    obtain ⟨u, hu, ru⟩ := rv.get hx
    obtain ⟨u2, hu2, ru2⟩ := rv2.get hy
    obtain ⟨u3, hu3, ru3⟩ := rv3.get hv
    have hzl : z < s.heap.objs.size := Heap.lt_size hz
    refine PB.pyNext_zip3_item D hz hTI hTO h1 h2 h3 p.isList p2.isList p3.isList (x := u) (y := u2) (v := u3) (by simpa using hu) (by simpa using hu2) (by simpa using hu3) fun h' z' TO' h1' h2' h3' hT hsz hk => ?_
    refine ⟨_, rfl, wpAny_letOwnedTupleGo_zip (s := { s with heap := h' }) z' fun h'' z'' sb => ?_⟩
    have hT2 : h''.get? s.heap.objs.size = some { cls := .type "tuple", data := .seq #[u, u2, u3] } := (sb.2 _ (Nat.ne_of_gt hzl)).trans hT
    have new : ObjOk X.prog X.w (upd H s.heap.objs.size (.tup [x, y, v])) h'' s.heap.objs.size (.tup [x, y, v]) :=
      ⟨by show 3 ≤ sizeLine; decide, [u, u2, u3], .cons ru (.cons ru2 (.cons ru3 .nil)), ⟨_, hT2, rfl, _, rfl⟩⟩
    have I1 : Inv X pins σ (upd H s.heap.objs.size (.tup [x, y, v])) { s with heap := h'' } :=
      I.turnedNew (t' := s.toks) (ch := [z, TI, TO, i1, i2, i3]) (fun c o hb q => (sb.2 c (fun q' => hb (by simp [q']))).trans (hk c o (fun q' => hb (by simp [q'])) (fun q' => hb (by simp [q'])) (fun q' => hb (by simp [q'])) (fun q' => hb (by simp [q'])) (fun q' => hb (by simp [q'])) q)) hf (Nat.le_refl _) new
    refine ⟨.ref s.heap.objs.size, _, I1, rfl, ⟨_, x, y, v, rfl, I.hok.fresh (Nat.le_refl _), rfl, fun l hl => by rw [I.list_inj hl hqx]; exact hx, fun l hl => by rw [I.list_inj hl hqy]; exact hy, fun l hl => by rw [I.list_inj hl hqz]; exact hv⟩,
      ⟨z'', ?_, ⟨u, u2, u3, ?_⟩, ?_, ?_, ?_⟩, fun c hcm => ?_⟩
    · exact (sb.2 _ D.TIz).trans (hk _ _ D.TIz D.TITO D.TIi1 D.TIi2 D.TIi3 hTI)
    · exact (sb.2 _ D.TOz).trans TO'
    · exact h1'.at fun o q => (sb.2 _ D.i1z).trans q
    · exact h2'.at fun o q => (sb.2 _ D.i2z).trans q
    · exact h3'.at fun o q => (sb.2 _ D.i3z).trans q
    · have hlt : c < s.heap.objs.size := by
        have e' : c = z ∨ c = TI ∨ c = TO ∨ c = i1 ∨ c = i2 ∨ c = i3 := by simpa using hcm
        rcases e' with q | q | q | q | q | q
        · rw [q]; exact hzl
        · rw [q]; exact Heap.lt_size hTI
        · rw [q]; exact Heap.lt_size hTO
        · rw [q]; obtain ⟨_, e1, _⟩ := h1; exact Heap.lt_size e1
        · rw [q]; obtain ⟨_, e2, _⟩ := h2; exact Heap.lt_size e2
        · rw [q]; obtain ⟨_, e3, _⟩ := h3; exact Heap.lt_size e3
      rw [upd_ne (Nat.ne_of_lt hlt)]
      exact (hf c hcm).1
  done := by
    intro X hP hw hK hc i pins s σ H E I hf st hg
    subst hP hw hK
    obtain ⟨hz, hTI, ⟨x0, y0, v0, hTO⟩, h1, h2, h3⟩ := st
    obtain ⟨xs, ys, zs, hqx, hqy, hqz, hend⟩ := hg
    obtain ⟨its, rv, p, _⟩ := I.list hqx
    obtain ⟨its2, rv2, p2, _⟩ := I.list hqy
    obtain ⟨its3, rv3, p3, _⟩ := I.list hqz
    have l1 := rv.length
    have l2 := rv2.length
    have l3 := rv3.length
    have he : its.toArray[i]? = none ∨ its2.toArray[i]? = none ∨ its3.toArray[i]? = none := by
      rcases hend with q | q | q
      · exact .inl (by simp; omega)
      · exact .inr (.inl (by simp; omega))
      · exact .inr (.inr (by simp; omega))
    exact PB.pyNext_zip3_end (I.ok.hd hc) D hz hTI hTO h1 h2 h3 p.isList p2.isList p3.isList he fun h' hk => ⟨rfl, I.turnedL (t' := s.toks) (ch := [z, TI, TO, i1, i2, i3]) (fun c o hb q =>
      hk c o (fun q' => hb (by simp [q'])) (fun q' => hb (by simp [q'])) (fun q' => hb (by simp [q'])) (fun q' => hb (by simp [q'])) (fun q' => hb (by simp [q'])) q) hf⟩
  self := fun A i s Q E st h => wpAny_pyIter_zip st.1 h
def iZip3 (K : PySem.W.Frag) (ta : TA) : TI := fun σ H R => ta σ H fun vs H1 => ∃ a b c xs ys zs, vs = [.ref a, .ref b, .ref c] ∧ SqL K H1 a xs ∧ SqL K H1 b ys ∧ SqL K H1 c zs ∧ R (Itz3 K a b c) H1
theorem pi_zip3 {X : Cx} {e e2 e3 : Expr} {ta : TA} {p pos tpos : Pos} {elts : List Expr} {kk : Nat} (hg : Gl X "zip") (hm : X.mg "zip" = none) (ha : PA X [e, e2, e3] ta)
    (hs : starEach [e, e2, e3] X.env = (false, eval e X.env) :: starEach [e2, e3] X.env := by rfl) (hpl : (backTo pos (starEach [e2, e3] X.env)).any (·.1) = false := by rfl) :
    PI X (.Tuple elts kk tpos) (.Call (.Name "zip" p) [e, e2, e3] [] pos) (iZip3 X.K ta) := by
  intro pins s σ H R I h
  refine Call_ (ld_blt I hg hm boot_zip5 (PyProof.Rows.callWith_type1 (thn (ha pos pins s σ H _ I h) fun us s1 ⟨vs, H1, I1, r1, q1⟩ => ?_) hs hpl))
  obtain ⟨a, b, c, xs, ys, zs, ex, hqx, hqy, hqz, q⟩ := q1
  subst ex
  cases r1 with
  | cons r rr =>
    cases rr with
    | cons r' rr =>
      cases rr with
      | cons r'' rr =>
        cases rr
        cases r
        cases r'
        cases r''
        obtain ⟨its, rv, p1, _⟩ := I1.list hqx
        obtain ⟨its2, rv2, p2, _⟩ := I1.list hqy
        obtain ⟨its3, rv3, p3, _⟩ := I1.list hqz
        have la : a < s1.heap.objs.size := p1.lt
        have lb : b < s1.heap.objs.size := p2.lt
        have lc : c < s1.heap.objs.size := p3.lt
        refine PB.call_zip_3 p1.isList p2.isList p3.isList fun h' hz hTI hTO h1 h2 h3 hsz hk => wpAny_pyIter_zip hz ?_
        have I2 : Inv X pins σ H1 { s1 with heap := h' } := I1.kept (t' := s1.toks) hk
        refine ⟨s1.heap.objs.size + 5, [s1.heap.objs.size + 5, s1.heap.objs.size + 3, s1.heap.objs.size + 4, s1.heap.objs.size, s1.heap.objs.size + 1, s1.heap.objs.size + 2], _, _, H1, rfl, I2, turn_zip3 (PB.zip3_apart s1.heap.objs.size a b c la lb lc), ⟨hz, hTI, ⟨_, _, _, hTO⟩, h1, h2, h3⟩, fun d hcm => ?_, q⟩
        have e' : d = s1.heap.objs.size + 5 ∨ d = s1.heap.objs.size + 3 ∨ d = s1.heap.objs.size + 4 ∨ d = s1.heap.objs.size ∨ d = s1.heap.objs.size + 1 ∨ d = s1.heap.objs.size + 2 := by simpa using hcm
        have hle : s1.heap.objs.size ≤ d := by
          rcases e' with z | z | z | z | z | z
          · rw [z]; exact Nat.le_add_right _ _
          · rw [z]; exact Nat.le_add_right _ _
          · rw [z]; exact Nat.le_add_right _ _
          · rw [z]; exact Nat.le_refl _
          · rw [z]; exact Nat.le_add_right _ _
          · rw [z]; exact Nat.le_add_right _ _
        exact I1.fpOk hle (I1.hok.fresh hle)
theorem for_it {J : It} {n : Nat} {g : TG} {tb : TS} {D : Ends} {σ : St} {H : Hp} (Pv : Nat → St → Hp → Prop) (h0 : Pv 0 σ H)
    (hgo : ∀ i σ H, i < n → Pv i σ H → J.go i H) (hst : ∀ σ H, Pv n σ H → J.stop n H)
    (hs : ∀ i σ H x H', i < n → Pv i σ H → J.yld i H x H' → g x σ H' fun σ2 H2 => tb { D with nx := Pv (i + 1), ct := Pv (i + 1), bk := D.nx } σ2 H2) (hd : ∀ σ H, Pv n σ H → D.nx σ H) :
    ∃ W : Nat → Nat → St → Hp → Prop, (∃ m, W 0 m σ H) ∧ ∀ i m σ H, W i m σ H →
      (J.stop i H ∧ D.nx σ H) ∨ (J.go i H ∧ ∃ N : St → Hp → Prop, (∀ σ' H', N σ' H' → ∃ m', m' < m ∧ W (i + 1) m' σ' H') ∧ ∀ x H', J.yld i H x H' → g x σ H' fun σ2 H2 => tb { D with nx := N, ct := N, bk := D.nx } σ2 H2) := by
  refine ⟨fun i m σ H => m = n - i ∧ i ≤ n ∧ Pv i σ H, ⟨n, by simp, Nat.zero_le _, h0⟩, ?_⟩
  rintro i m σ H ⟨rfl, hi, p⟩
  by_cases hlt : i < n
  · exact .inr ⟨hgo i σ H hlt p, Pv (i + 1), fun σ' H' p' => ⟨n - (i + 1), by omega, rfl, hlt, p'⟩, fun x H' y => hs i σ H x H' hlt p y⟩
  · have e : i = n := by omega
    subst e
    exact .inl ⟨hst σ H p, hd σ H p⟩
theorem lc_it {J : It} {n : Nat} {g : TG} {tt : TT} {te : TE} {vs : List Nat} {σ : St} {H1 : Hp} {D : Addr} {Qd : Hp → Prop} (Pv : Nat → Hp → Prop) (h0 : Pv 0 (upd H1 D (.lst [])))
    (hgo : ∀ i H, i < n → Pv i H → J.go i H) (hst : ∀ H, Pv n H → J.stop n H)
    (hs : ∀ i H x H', i < n → Pv i H → J.yld i H x H' → g x (wipe σ vs) H' fun σ2 H2 => wipe σ2 vs = wipe σ vs ∧ tt σ2 H2 fun b H3 =>
      if b = true then te σ2 H3 fun y H4 => ∃ acc, H4 D = some (.lst acc) ∧ acc.length < sizeLine ∧ Pv (i + 1) (upd H4 D (.lst (acc ++ [y]))) else Pv (i + 1) H3) (hd : ∀ H, Pv n H → Qd H) :
    ∃ W : Nat → Nat → Hp → Prop, (∃ m, W 0 m (upd H1 D (.lst []))) ∧ ∀ i m H, W i m H →
      (J.stop i H ∧ Qd H) ∨ (J.go i H ∧ ∃ Nx : Hp → Prop, (∀ H', Nx H' → ∃ m', m' < m ∧ W (i + 1) m' H') ∧ ∀ x H', J.yld i H x H' → g x (wipe σ vs) H' fun σ2 H2 => wipe σ2 vs = wipe σ vs ∧ tt σ2 H2 fun b H3 =>
        if b = true then te σ2 H3 fun y H4 => ∃ acc, H4 D = some (.lst acc) ∧ acc.length < sizeLine ∧ Nx (upd H4 D (.lst (acc ++ [y]))) else Nx H3) := by
  refine ⟨fun i m H => m = n - i ∧ i ≤ n ∧ Pv i H, ⟨n, by simp, Nat.zero_le _, h0⟩, ?_⟩
  rintro i m H ⟨rfl, hi, p⟩
  by_cases hlt : i < n
  · exact .inr ⟨hgo i H hlt p, Pv (i + 1), fun H' p' => ⟨n - (i + 1), by omega, rfl, hlt, p'⟩, fun x H' y => hs i H x H' hlt p y⟩
  · have e : i = n := by omega
    subst e
    exact .inl ⟨hst H p, hd H p⟩
section
variable {P : Program} {w : World} {K : PySem.W.Frag} {mg : Str → Option Value} {base : Heap}
structure CalF (P : Program) (w : World) (K : PySem.W.Frag) (mg : Str → Option Value) (base : Heap) (k : Nat) (x : Str) (ps : List Str) (sp : Sp) : Prop where
  ex : ∃ f fd, FnOk P w K mg base CX0 k f fd ps sp ∧ mg x = some (.ref f) ∧ PySem.W.keepIn K (.ref f) = true ∧ Binds K fd ps []
structure CalM (P : Program) (w : World) (K : PySem.W.Frag) (mg : Str → Option Value) (base : Heap) (k : Nat) (C : Addr) (m : Str) (ps : List Str) (sp : Sp) : Prop where
  ex : ∃ f fd, FnOk P w K mg base CX0 k f fd ps sp ∧ Meth K C m f ∧ Binds K fd ps []
  cl : Cls K C
structure CalC (P : Program) (w : World) (K : PySem.W.Frag) (mg : Str → Option Value) (base : Heap) (k : Nat) (x : Str) (C : Addr) (ps : List Str) (sp : Sp) : Prop where
  ex : ∃ f fd, FnOk P w K mg base CX0 k f fd ps sp ∧ mg x = some (.ref C) ∧ Mk K C f ∧ Binds K fd ps []
end
section
variable {X : Cx} {k : Nat} {x m : Str} {C : Addr} {ps : List Str} {sp : Sp} {p pos apos : Pos} {e o : Expr} {es : List Expr} {ta : TE} {t : TA}
theorem pe_fn (F : CalF X.prog X.w X.K X.mg X.base k x ps sp) (hr : Room k X.A) (hg : Gl X x) (ha : PA X (e :: es) t) (hdb : (x == ("__debug__" : Str)) = false := by decide)
    (he : starEach (e :: es) X.env = (false, eval e X.env) :: starEach es X.env := by rfl) (hpl : (backTo pos (starEach es X.env)).any (·.1) = false := by rfl) :
    PE X (.Call (.Name x p) (e :: es) [] pos) (tCall sp [] E0 t) := by
  obtain ⟨f, fd, F, hm, hk, hb⟩ := F.ex
  exact pe_call F hr hg hm hk hb .nil pass0 ha hdb he hpl
theorem pe_fn0 (F : CalF X.prog X.w X.K X.mg X.base k x ps sp) (hr : Room k X.A) (hg : Gl X x) (hdb : (x == ("__debug__" : Str)) = false := by decide) :
    PE X (.Call (.Name x p) [] [] pos) (tCall sp [] E0 tNil) := by
  obtain ⟨f, fd, F, hm, hk, hb⟩ := F.ex
  exact pe_call0 F hr hg hm hk hb .nil pass0 hdb
theorem pe_md {pl : Sem Bool} (F : CalM X.prog X.w X.K X.mg X.base k C m ps sp) (hr : Room k X.A) (he : PE X o ta) (ha : PA X (e :: es) t)
    (hst : starEach (e :: es) X.env = (false, eval e X.env) :: starEach es X.env := by rfl) (hpl : (backTo pos (starEach es X.env)).any (·.1) = false := by rfl)
    (ht : eval (.Call (.Attribute o m apos) (e :: es) [] pos) X.env = (do
      let ov ← eval o X.env
      standAt apos.atName
      let (f, first) ← holding [ov] (getMethod ov m pl)
      callWith pos f first (backTo pos (starEach (e :: es) X.env)) (backToKw pos (keywordEach [] X.env))) := by rfl) :
    PE X (.Call (.Attribute o m apos) (e :: es) [] pos) (tMeth C m sp [] E0 ta t) := by
  obtain ⟨f, fd, G, hm, hb⟩ := F.ex
  exact pe_meth he F.cl hm G hr hb .nil pass0 ha hst hpl ht
theorem pe_md0 {pl : Sem Bool} (F : CalM X.prog X.w X.K X.mg X.base k C m ps sp) (hr : Room k X.A) (he : PE X o ta)
    (ht : eval (.Call (.Attribute o m apos) [] [] pos) X.env = (do
      let ov ← eval o X.env
      standAt apos.atName
      let (f, first) ← holding [ov] (getMethod ov m pl)
      callWith pos f first (backTo pos (starEach [] X.env)) (backToKw pos (keywordEach [] X.env))) := by rfl) :
    PE X (.Call (.Attribute o m apos) [] [] pos) (tMeth C m sp [] E0 ta tNil) := by
  obtain ⟨f, fd, G, hm, hb⟩ := F.ex
  exact pe_meth0 he F.cl hm G hr hb .nil pass0 ht
theorem pe_mk (F : CalC X.prog X.w X.K X.mg X.base k x C ps sp) (hr : Room (k + 1) X.A) (hg : Gl X x) (ha : PA X (e :: es) t) (hdb : (x == ("__debug__" : Str)) = false := by decide)
    (he : starEach (e :: es) X.env = (false, eval e X.env) :: starEach es X.env := by rfl) (hpl : (backTo pos (starEach es X.env)).any (·.1) = false := by rfl) :
    PE X (.Call (.Name x p) (e :: es) [] pos) (tMake C sp [] E0 t) := by
  obtain ⟨f, fd, G, hm, M, hb⟩ := F.ex
  exact pe_make M G hr hg hm hb .nil pass0 ha hdb he hpl
end
end L2
namespace My
open Vbfuam
theorem take_snoc {α : Type} : ∀ {l : List α} {i : Nat} {x : α}, l[i]? = some x → l.take (i + 1) = l.take i ++ [x]
  | [], i, x, h => by simp at h
  | a :: l, 0, x, h => by
    have e : a = x := Option.some.inj h
    subst e
    rfl
  | a :: l, i + 1, x, h => by
    have ih := take_snoc (l := l) (i := i) (x := x) h
    show a :: l.take (i + 1) = a :: l.take i ++ [x]
    rw [ih]
    rfl
theorem foldl_take {α β : Type} (f : β → α → β) (b : β) {l : List α} {i : Nat} {x : α} (h : l[i]? = some x) : (l.take (i + 1)).foldl f b = f ((l.take i).foldl f b) x := by
  rw [take_snoc h, List.foldl_append]
  rfl
theorem map_take {α β : Type} (f : α → β) {l : List α} {i : Nat} {x : α} (h : l[i]? = some x) : (l.take (i + 1)).map f = (l.take i).map f ++ [f x] := by
  rw [take_snoc h, List.map_append]
  rfl
theorem sum_snoc : ∀ (l : List Int) (z : Int), (l ++ [z]).sum = l.sum + z := by
  intro l z
  rw [List.sum_append]
  simp
theorem isum_eq (l : List Int) : isum l = l.sum := rfl
theorem zip_get {α β : Type} {l : List α} {m : List β} {i : Nat} {a : α} {b : β} (ha : l[i]? = some a) (hb : m[i]? = some b) : (l.zip m)[i]? = some (a, b) := by
  rw [List.getElem?_zip_eq_some]
  exact ⟨ha, hb⟩
theorem of_zip {α β : Type} {l : List α} {m : List β} {i : Nat} {a : α} {b : β} (h : (l.zip m)[i]? = some (a, b)) : l[i]? = some a ∧ m[i]? = some b := List.getElem?_zip_eq_some.mp h
theorem natsum : ∀ l : List (Nat × Nat), (l.map fun x => (x.1 : Int) * (x.2 : Int)).sum = ((nsum (l.map fun p => p.1 * p.2) : Nat) : Int)
  | [] => rfl
  | a :: l => by
    have ih := natsum l
    show ((a.1 : Int) * (a.2 : Int)) + (l.map fun x => (x.1 : Int) * (x.2 : Int)).sum = ((a.1 * a.2 + nsum (l.map fun p => p.1 * p.2) : Nat) : Int)
    rw [ih, Int.natCast_add, Int.natCast_mul]
theorem worth_eq (q p : List Nat) : ((q.zip p).map fun x => (x.1 : Int) * (x.2 : Int)).sum / 1000000 = ((things q p : Nat) : Int) := by
  rw [natsum]
  show _ = ((nsum ((q.zip p).map fun p => p.1 * p.2) / MILLION : Nat) : Int)
  rw [Int.natCast_ediv]
  rfl
theorem fee_eq (s : State) (g : Int) : (if (0 : Int) > g then 0 else g) * (s.rate : Int) / 365000000 = ((feeOf s g : Nat) : Int) := by
  unfold feeOf
  have e : (if (0 : Int) > g then 0 else g) = ((g.toNat : Nat) : Int) := by
    split <;> omega
  rw [e, Int.natCast_ediv, Int.natCast_mul]
  rfl
theorem done_in {v u : Int} (hv : 1 ≤ v) (hu : 1 ≤ u) {d : Deal} (h : d.kind = 0) : done v u d = ⟨(d.amount : Int), (d.amount : Int) * u / v⟩ := by
  unfold done
  rw [if_pos h]
  have e1 : ((u.toNat : Nat) : Int) = u := by omega
  have e2 : ((v.toNat : Nat) : Int) = v := by omega
  rw [Int.natCast_ediv, Int.natCast_mul, e1, e2]
theorem done_out {v u : Int} (hv : 1 ≤ v) (hu : 1 ≤ u) {d : Deal} (h : ¬ d.kind = 0) : done v u d = ⟨-((d.amount : Int) * v / u), -(d.amount : Int)⟩ := by
  unfold done
  rw [if_neg h]
  have e1 : ((u.toNat : Nat) : Int) = u := by omega
  have e2 : ((v.toNat : Nat) : Int) = v := by omega
  rw [Int.natCast_ediv, Int.natCast_mul, e1, e2]
theorem done_money {v u : Int} (hv : 1 ≤ v) (hu : 1 ≤ u) (d : Deal) : (done v u d).money ≤ (d.amount : Int) := by
  by_cases h : d.kind = 0
  · rw [done_in hv hu h]
    exact Int.le_refl _
  · rw [done_out hv hu h]
    show -((d.amount : Int) * v / u) ≤ (d.amount : Int)
    have h1 : 0 ≤ (d.amount : Int) * v / u := Int.ediv_nonneg (Int.mul_nonneg (by omega) (by omega)) (by omega)
    omega
def bstep (b : Book) (p : Deal × Out) : Book := { cash := b.cash + p.2.money, units := addAt b.units p.1.holder p.2.units }
theorem behind_eq (k : Book) (fee : Nat) (deals : List Deal) (outs : List Out) : behind k fee deals outs = (deals.zip outs).foldl bstep { k with cash := k.cash - (fee : Int) } := rfl
theorem addAt_len (l : List Int) (i : Nat) (n : Int) : (addAt l i n).length = l.length := by
  unfold addAt
  rw [List.length_set]
theorem bfold_len : ∀ (l : List (Deal × Out)) (b : Book), (l.foldl bstep b).units.length = b.units.length
  | [], b => rfl
  | p :: l, b => by
    show (l.foldl bstep (bstep b p)).units.length = _
    rw [bfold_len l]
    exact addAt_len _ _ _
theorem behind_len (k : Book) (fee : Nat) (deals : List Deal) (outs : List Out) : (behind k fee deals outs).units.length = k.units.length := by
  rw [behind_eq, bfold_len]
theorem bfold_cash : ∀ (l : List (Deal × Out)) (b : Book), (∀ p ∈ l, p.2.money ≤ 1000000000000) → (l.foldl bstep b).cash ≤ b.cash + 1000000000000 * (l.length : Int)
  | [], b, _ => by show b.cash ≤ _; simp
  | p :: l, b, h => by
    have ih := bfold_cash l (bstep b p) (fun q hq => h q (List.mem_cons_of_mem _ hq))
    have h1 := h p (List.mem_cons_self)
    have e : (bstep b p).cash = b.cash + p.2.money := rfl
    show (l.foldl bstep (bstep b p)).cash ≤ b.cash + 1000000000000 * ((l.length + 1 : Nat) : Int)
    omega
structure DealOk (d : Deal) : Prop where
  h1 : 1 ≤ d.holder
  h10 : d.holder ≤ 10
  k1 : d.kind ≤ 1
  a1 : 1 ≤ d.amount
  a2 : d.amount ≤ 1000000000000
structure DealsOk (l : List Deal) : Prop where
  few : l.length ≤ 10
  all : ∀ d ∈ l, DealOk d
structure OutsOk (n : Nat) (l : List Out) : Prop where
  len : l.length = n
  all : ∀ o ∈ l, o.money ≤ 1000000000000
structure QuotesOk (l : List Nat) : Prop where
  len : l.length = 6
  all : ∀ n ∈ l, n ≤ 1000000000000
structure DayOk (d : Day) : Prop where
  quotes : QuotesOk d.quotes
  deals : DealsOk d.deals
  v1 : 1 ≤ d.value
  v2 : d.value ≤ 1000000000000000
  u1 : 1 ≤ d.units
  first : OutsOk d.deals.length d.first
  outs : OutsOk d.deals.length d.outs
structure FixesOk (l : List Fix) : Prop where
  few : l.length ≤ 60
  day : ∀ f ∈ l, 1 ≤ f.day ∧ f.day ≤ 60
  thing : ∀ f ∈ l, 1 ≤ f.thing ∧ f.thing ≤ 6
  quote : ∀ f ∈ l, f.quote ≤ 1000000000000
  nd : (l.map fun f => (f.day, f.thing)).Nodup
structure Good (s : State) : Prop where
  c0 : 0 ≤ s.cash
  c1 : s.cash ≤ 1000000000000
  rate : s.rate ≤ 1000000
  limit : s.limit ≤ 1000000
  qlen : s.qty.length = 6
  qty : ∀ n ∈ s.qty, n ≤ 1000000
  seed : s.seed.length = 10
  days : s.days.length ≤ 60
  day : ∀ d ∈ s.days, DayOk d
  quotes : QuotesOk s.quotes
  deals : DealsOk s.deals
  fixes : FixesOk s.fixes
  net : s.net.length = 10
theorem nsum_le : ∀ (l : List Nat) (B : Nat), (∀ n ∈ l, n ≤ B) → nsum l ≤ l.length * B
  | [], B, _ => by show 0 ≤ _; omega
  | a :: l, B, h => by
    have ih := nsum_le l B (fun n hn => h n (List.mem_cons_of_mem _ hn))
    have h1 := h a List.mem_cons_self
    show a + nsum l ≤ (l.length + 1) * B
    rw [Nat.add_mul]
    omega
theorem things_le {q p : List Nat} (hq : q.length = 6) (h1 : ∀ n ∈ q, n ≤ 1000000) (h2 : ∀ n ∈ p, n ≤ 1000000000000) : things q p ≤ 6000000000000 := by
  unfold things MILLION
  have h := nsum_le ((q.zip p).map fun p => p.1 * p.2) (1000000 * 1000000000000) (fun n hn => by
    obtain ⟨x, hx, rfl⟩ := List.mem_map.mp hn
    obtain ⟨a, b⟩ := x
    have hm := List.of_mem_zip hx
    exact Nat.mul_le_mul (h1 a hm.1) (h2 b hm.2))
  have hl : ((q.zip p).map fun p => p.1 * p.2).length ≤ 6 := by
    rw [List.length_map, List.length_zip]
    omega
  have h3 : nsum ((q.zip p).map fun p => p.1 * p.2) ≤ 6 * (1000000 * 1000000000000) := Nat.le_trans h (Nat.mul_le_mul_right _ hl)
  omega
theorem behind_cash {k : Book} {fee : Nat} {deals : List Deal} {outs : List Out} (hd : deals.length ≤ 10) (ho : ∀ o ∈ outs, o.money ≤ 1000000000000) : (behind k fee deals outs).cash ≤ k.cash + 10000000000000 := by
  rw [behind_eq]
  have h := bfold_cash (deals.zip outs) { k with cash := k.cash - (fee : Int) } (fun p hp => ho p.2 (List.of_mem_zip hp).2)
  have hl : (deals.zip outs).length ≤ 10 := by
    rw [List.length_zip]
    omega
  have e : ({ k with cash := k.cash - (fee : Int) } : Book).cash = k.cash - (fee : Int) := rfl
  rw [e] at h
  omega
structure BookOk (n : Nat) (k : Book) : Prop where
  cash : k.cash ≤ 1000000000000 + 10000000000000 * (n : Int)
  len : k.units.length = 10
theorem BookOk.behind {n : Nat} {k : Book} (h : BookOk n k) {fee : Nat} {deals : List Deal} {outs : List Out} (hd : deals.length ≤ 10) (ho : ∀ o ∈ outs, o.money ≤ 1000000000000) : BookOk (n + 1) (Vbfuam.behind k fee deals outs) := by
  refine ⟨?_, by rw [behind_len]; exact h.len⟩
  have h1 := behind_cash (k := k) (fee := fee) hd ho
  have h2 := h.cash
  omega
theorem Good.firstBook {s : State} (g : Good s) : BookOk 0 (Vbfuam.firstBook s) := ⟨by have := g.c1; show s.cash ≤ _; omega, g.seed⟩
def standTo (s : State) (i : Nat) : Book := (s.days.take i).foldl (fun k d => behind k d.feeNow d.deals d.outs) (firstBook s)
theorem standTo_all (s : State) : standTo s s.days.length = standing s := by
  unfold standTo standing
  rw [List.take_length]
theorem standTo_succ {s : State} {i : Nat} {d : Day} (h : s.days[i]? = some d) : standTo s (i + 1) = behind (standTo s i) d.feeNow d.deals d.outs := foldl_take _ _ h
theorem Good.dayAt {s : State} (g : Good s) {i : Nat} {d : Day} (h : s.days[i]? = some d) : DayOk d := g.day d (List.mem_of_getElem? h)
theorem Good.standTo {s : State} (g : Good s) : ∀ i, i ≤ s.days.length → BookOk i (My.standTo s i)
  | 0, _ => g.firstBook
  | i + 1, h => by
    have hd : s.days[i]? = some s.days[i] := List.getElem?_eq_getElem (by omega)
    rw [standTo_succ hd]
    have ok := g.dayAt hd
    exact (Good.standTo g i (by omega)).behind ok.deals.few ok.outs.all
theorem Good.standing {s : State} (g : Good s) : BookOk s.days.length (Vbfuam.standing s) := by
  rw [← standTo_all]
  exact g.standTo _ (Nat.le_refl _)
theorem gross_le {s : State} (g : Good s) {q : List Nat} (hq : QuotesOk q) {n : Nat} (hn : n ≤ 60) {k : Book} (hk : BookOk n k) : gross s q k ≤ 1000000000000000 := by
  unfold gross
  have h1 := things_le (p := q) g.qlen g.qty hq.all
  have h2 := hk.cash
  omega
theorem value_le {s : State} (g : Good s) {q : List Nat} (hq : QuotesOk q) {n : Nat} (hn : n ≤ 60) {k : Book} (hk : BookOk n k) : gross s q k - (feeOf s (gross s q k) : Int) ≤ 1000000000000000 := by
  have := gross_le g hq hn hk
  omega
def rightsTo (s : State) (i : Nat) : List Right := rightFrom s 1 (firstBook s) (s.days.take i)
def bookFrom (s : State) : Nat → Book → List Day → Book
  | _, k, [] => k
  | n, k, d :: l => bookFrom s (n + 1) (behind k (judged s n d k).fee d.deals (judged s n d k).outs) l
def bookTo (s : State) (i : Nat) : Book := bookFrom s 1 (firstBook s) (s.days.take i)
theorem rightFrom_snoc (s : State) (d : Day) : ∀ (l : List Day) (n : Nat) (k : Book), rightFrom s n k (l ++ [d]) = rightFrom s n k l ++ [judged s (n + l.length) d (bookFrom s n k l)]
  | [], n, k => rfl
  | e :: l, n, k => by
    show judged s n e k :: rightFrom s (n + 1) _ (l ++ [d]) = judged s n e k :: rightFrom s (n + 1) _ l ++ [judged s (n + (l.length + 1)) d (bookFrom s (n + 1) _ l)]
    rw [rightFrom_snoc s d l (n + 1)]
    have e1 : n + 1 + l.length = n + (l.length + 1) := by omega
    rw [e1]
    rfl
theorem bookFrom_snoc (s : State) (d : Day) : ∀ (l : List Day) (n : Nat) (k : Book), bookFrom s n k (l ++ [d]) =
    behind (bookFrom s n k l) (judged s (n + l.length) d (bookFrom s n k l)).fee d.deals (judged s (n + l.length) d (bookFrom s n k l)).outs
  | [], n, k => rfl
  | e :: l, n, k => by
    show bookFrom s (n + 1) _ (l ++ [d]) = behind (bookFrom s (n + 1) _ l) (judged s (n + (l.length + 1)) d (bookFrom s (n + 1) _ l)).fee d.deals (judged s (n + (l.length + 1)) d (bookFrom s (n + 1) _ l)).outs
    rw [bookFrom_snoc s d l (n + 1)]
    have e1 : n + 1 + l.length = n + (l.length + 1) := by omega
    rw [e1]
theorem rightsTo_all (s : State) : rightsTo s s.days.length = rights s := by
  unfold rightsTo rights
  rw [List.take_length]
theorem rightsTo_succ {s : State} {i : Nat} {d : Day} (h : s.days[i]? = some d) : rightsTo s (i + 1) = rightsTo s i ++ [judged s (i + 1) d (bookTo s i)] := by
  unfold rightsTo bookTo
  have hl : i < s.days.length := (List.getElem?_eq_some_iff.mp h).1
  have e : (s.days.take i).length = i := by
    rw [List.length_take]
    omega
  rw [take_snoc h, rightFrom_snoc, e, Nat.add_comm 1 i]
theorem bookTo_succ {s : State} {i : Nat} {d : Day} (h : s.days[i]? = some d) : bookTo s (i + 1) = behind (bookTo s i) (judged s (i + 1) d (bookTo s i)).fee d.deals (judged s (i + 1) d (bookTo s i)).outs := by
  unfold bookTo
  have hl : i < s.days.length := (List.getElem?_eq_some_iff.mp h).1
  have e : (s.days.take i).length = i := by
    rw [List.length_take]
    omega
  rw [take_snoc h, bookFrom_snoc, e, Nat.add_comm 1 i]
theorem rightFrom_len (s : State) : ∀ (l : List Day) (n : Nat) (k : Book), (rightFrom s n k l).length = l.length
  | [], _, _ => rfl
  | d :: l, n, k => by
    show (rightFrom s (n + 1) _ l).length + 1 = l.length + 1
    rw [rightFrom_len s l]
theorem rights_len (s : State) : (rights s).length = s.days.length := rightFrom_len s _ _ _
theorem fold_rightFrom (s : State) : ∀ (l : List Day) (n : Nat) (k : Book), (l.zip (rightFrom s n k l)).foldl (fun k p => behind k p.2.fee p.1.deals p.2.outs) k = bookFrom s n k l
  | [], _, _ => rfl
  | d :: l, n, k => by
    show (l.zip (rightFrom s (n + 1) (behind k (judged s n d k).fee d.deals (judged s n d k).outs) l)).foldl (fun k p => behind k p.2.fee p.1.deals p.2.outs) (behind k (judged s n d k).fee d.deals (judged s n d k).outs) = bookFrom s (n + 1) _ l
    rw [fold_rightFrom s l]
theorem rightBook_eq (s : State) : rightBook s = bookTo s s.days.length := by
  unfold rightBook rights bookTo
  rw [List.take_length]
  exact fold_rightFrom s _ _ _
theorem outs_done {v u : Int} (hv : 1 ≤ v) (hu : 1 ≤ u) {l : List Deal} (h : DealsOk l) : OutsOk l.length (l.map (done v u)) := by
  refine ⟨List.length_map _, fun o ho => ?_⟩
  obtain ⟨d, hd, rfl⟩ := List.mem_map.mp ho
  have h1 := done_money hv hu d
  have h2 := (h.all d hd).a2
  omega
theorem judged_outs {s : State} {n : Nat} {d : Day} {k : Book} (h : DayOk d) : OutsOk d.deals.length (judged s n d k).outs := by
  unfold judged
  dsimp only
  split
  · exact h.first
  · rename_i q
    split
    · exact outs_done (by omega) (by omega) h.deals
    · exact h.first
theorem fixedQuotes_ok {s : State} (g : Good s) {n : Nat} {d : Day} (h : DayOk d) : QuotesOk (fixedQuotes s n d) := by
  refine ⟨by unfold fixedQuotes; rw [List.length_map, List.length_range]; rfl, fun q hq => ?_⟩
  unfold fixedQuotes at hq
  obtain ⟨i, hi, e⟩ := List.mem_map.mp hq
  split at e
  · rename_i f hf
    subst e
    exact g.fixes.quote f (List.mem_of_find?_eq_some hf)
  · subst e
    have hl : i < d.quotes.length := by
      rw [h.quotes.len]
      exact List.mem_range.mp hi
    have e2 : d.quotes.getD i 0 = d.quotes[i] := by simp [List.getD, hl]
    rw [e2]
    exact h.quotes.all _ (List.getElem_mem hl)
theorem Good.bookTo {s : State} (g : Good s) : ∀ i, i ≤ s.days.length → BookOk i (My.bookTo s i)
  | 0, _ => g.firstBook
  | i + 1, h => by
    have hd : s.days[i]? = some s.days[i] := List.getElem?_eq_getElem (by omega)
    rw [bookTo_succ hd]
    have ok := g.dayAt hd
    exact (Good.bookTo g i (by omega)).behind ok.deals.few (judged_outs ok).all
theorem rights_get {s : State} : ∀ {i : Nat}, i ≤ s.days.length → ∀ {j : Nat} {d : Day}, j < i → s.days[j]? = some d → (rightsTo s i)[j]? = some (judged s (j + 1) d (bookTo s j))
  | 0, _, j, d, hj, _ => by omega
  | i + 1, h, j, d, hj, hd => by
    have hdi : s.days[i]? = some s.days[i] := List.getElem?_eq_getElem (by omega)
    rw [rightsTo_succ hdi]
    have hl : (rightsTo s i).length = i := by
      unfold rightsTo
      rw [rightFrom_len, List.length_take]
      omega
    by_cases e : j < i
    · rw [List.getElem?_append_left (by omega)]
      exact rights_get (by omega) e hd
    · have e2 : j = i := by omega
      subst e2
      rw [List.getElem?_append_right (by omega), hl, Nat.sub_self]
      rw [hd] at hdi
      cases hdi
      rfl
theorem rights_at {s : State} {j : Nat} {d : Day} (h : s.days[j]? = some d) : (rights s)[j]? = some (judged s (j + 1) d (bookTo s j)) := by
  rw [← rightsTo_all]
  exact rights_get (Nat.le_refl _) (List.getElem?_eq_some_iff.mp h).1 h
def owe1 (o : List Int) (x : Deal × Out × Out) : List Int := o.set (x.1.holder - 1) (o.getD (x.1.holder - 1) 0 + (x.2.1.money - x.2.2.money))
def oweDay (o : List Int) (p : Day × Right) : List Int := (p.1.deals.zip (p.1.outs.zip p.2.outs)).foldl owe1 o
theorem owe1_len (o : List Int) (x : Deal × Out × Out) : (owe1 o x).length = o.length := List.length_set
theorem owe_len : ∀ (l : List (Deal × Out × Out)) (o : List Int), (l.foldl owe1 o).length = o.length
  | [], _ => rfl
  | x :: l, o => by
    show (l.foldl owe1 (owe1 o x)).length = _
    rw [owe_len l, owe1_len]
theorem oweDay_len (o : List Int) (p : Day × Right) : (oweDay o p).length = o.length := owe_len _ _
theorem oweDays_len : ∀ (l : List (Day × Right)) (o : List Int), (l.foldl oweDay o).length = o.length
  | [], _ => rfl
  | x :: l, o => by
    show (l.foldl oweDay (oweDay o x)).length = _
    rw [oweDays_len l, oweDay_len]
theorem owe1_at {o : List Int} {x : Deal × Out × Out} {h : Nat} (ho : o.length = 10) (h1 : 1 ≤ h) (h2 : h ≤ 10) (hx : DealOk x.1) :
    (owe1 o x).getD (h - 1) 0 = o.getD (h - 1) 0 + if x.1.holder == h then x.2.1.money - x.2.2.money else 0 := by
  unfold owe1
  have a1 := hx.h1
  have a2 := hx.h10
  by_cases e : x.1.holder = h
  · subst e
    rw [if_pos (beq_self_eq_true _)]
    rw [List.getD_eq_getElem?_getD, List.getElem?_set_self (by omega)]
    rfl
  · rw [if_neg (by intro q; exact e (eq_of_beq q))]
    rw [List.getD_eq_getElem?_getD, List.getElem?_set_ne (by omega), List.getD_eq_getElem?_getD]
    omega
theorem owe_at {h : Nat} (h1 : 1 ≤ h) (h2 : h ≤ 10) : ∀ (l : List (Deal × Out × Out)) (o : List Int), o.length = 10 → (∀ x ∈ l, DealOk x.1) →
    (l.foldl owe1 o).getD (h - 1) 0 = o.getD (h - 1) 0 + isum ((l.filter fun x => x.1.holder == h).map fun x => x.2.1.money - x.2.2.money)
  | [], o, _, _ => by show _ = _ + 0; simp
  | x :: l, o, ho, hx => by
    show (l.foldl owe1 (owe1 o x)).getD (h - 1) 0 = _
    rw [owe_at h1 h2 l (owe1 o x) (by rw [owe1_len]; exact ho) (fun y hy => hx y (List.mem_cons_of_mem _ hy)), owe1_at ho h1 h2 (hx x List.mem_cons_self), List.filter_cons]
    split
    · show _ = _ + ((x.2.1.money - x.2.2.money) + isum ((l.filter fun x => x.1.holder == h).map fun x => x.2.1.money - x.2.2.money))
      omega
    · omega
theorem oweDays_at {h : Nat} (h1 : 1 ≤ h) (h2 : h ≤ 10) : ∀ (l : List (Day × Right)) (o : List Int), o.length = 10 → (∀ p ∈ l, ∀ d ∈ p.1.deals, DealOk d) →
    (l.foldl oweDay o).getD (h - 1) 0 = o.getD (h - 1) 0 + isum (l.map fun p => isum (((p.1.deals.zip (p.1.outs.zip p.2.outs)).filter fun x => x.1.holder == h).map fun x => x.2.1.money - x.2.2.money))
  | [], o, _, _ => by show _ = _ + 0; simp
  | p :: l, o, ho, hx => by
    show (l.foldl oweDay (oweDay o p)).getD (h - 1) 0 = _
    rw [oweDays_at h1 h2 l (oweDay o p) (by rw [oweDay_len]; exact ho) (fun y hy => hx y (List.mem_cons_of_mem _ hy))]
    unfold oweDay
    rw [owe_at h1 h2 _ o ho (fun x hx' => hx p List.mem_cons_self x.1 (List.of_mem_zip (a := x.1) (b := x.2) hx').1)]
    show _ = _ + (isum _ + isum _)
    omega
def owedList (s : State) : List Int := (s.days.zip (rights s)).foldl oweDay (List.replicate 10 0)
theorem owedList_len (s : State) : (owedList s).length = 10 := by
  unfold owedList
  rw [oweDays_len, List.length_replicate]
theorem owedList_at {s : State} (g : Good s) {h : Nat} (h1 : 1 ≤ h) (h2 : h ≤ 10) : (owedList s).getD (h - 1) 0 = owedBy s h := by
  unfold owedList owedBy
  rw [oweDays_at h1 h2 _ _ List.length_replicate (fun p hp d hd => ((g.day p.1 (List.of_mem_zip (a := p.1) (b := p.2) hp).1).deals.all d hd))]
  have e : (List.replicate 10 (0 : Int)).getD (h - 1) 0 = 0 := by
    rw [List.getD_eq_getElem?_getD, List.getElem?_replicate]
    split <;> rfl
  rw [e]
  omega
theorem owedList_eq {s : State} (g : Good s) : owedList s = holders.map (owedBy s) := by
  refine List.ext_getElem? fun i => ?_
  by_cases hi : i < 10
  · have h1 := owedList_at g (h := i + 1) (by omega) (by omega)
    have hl := owedList_len s
    rw [Nat.add_sub_cancel, List.getD_eq_getElem?_getD, List.getElem?_eq_getElem (by omega)] at h1
    have h1' : (owedList s)[i]'(by omega) = owedBy s (i + 1) := h1
    rw [List.getElem?_eq_getElem (by omega), h1']
    unfold holders
    rw [List.getElem?_map, List.getElem?_map, List.getElem?_range (show i < HOLDERS from hi)]
    rfl
  · rw [List.getElem?_eq_none (by rw [owedList_len]; omega), List.getElem?_eq_none (by unfold holders; rw [List.length_map, List.length_map, List.length_range]; show 10 ≤ i; omega)]
theorem good_start : Good start := by
  refine ⟨by decide, by decide, by decide, by decide, by decide, by decide, by decide, by decide, ?_, ⟨by decide, by decide⟩, ⟨by decide, ?_⟩, ⟨by decide, ?_, ?_, ?_, by decide⟩, by decide⟩
  all_goals (intro d hd; cases hd)
theorem inside_iff {n lo hi : Int} : inside n lo hi = true ↔ lo ≤ n ∧ n ≤ hi := by
  unfold inside
  rw [Bool.and_eq_true, decide_eq_true_eq, decide_eq_true_eq]
theorem good_begin {c r l : Int} {q u : List Int} (hc : 0 ≤ c ∧ c ≤ 1000000000000) (hr : 0 ≤ r ∧ r ≤ 1000000) (hl : 0 ≤ l ∧ l ≤ 1000000) (hq : q.length = 6) (hq2 : ∀ n ∈ q, 0 ≤ n ∧ n ≤ 1000000) (hu : u.length = 10) :
    Good { start with cash := c, rate := r.toNat, limit := l.toNat, qty := q.map Int.toNat, seed := u } := by
  have g := good_start
  refine ⟨hc.1, hc.2, by show r.toNat ≤ _; omega, by show l.toNat ≤ _; omega, by show (q.map Int.toNat).length = 6; rw [List.length_map]; exact hq, fun n hn => ?_, hu, g.days, g.day, g.quotes, g.deals, g.fixes, g.net⟩
  obtain ⟨z, hz, rfl⟩ := List.mem_map.mp hn
  have := hq2 z hz
  omega
theorem good_quote {s : State} (g : Good s) {i p : Nat} (hp : p ≤ 1000000000000) : Good { s with quotes := s.quotes.set i p } := by
  refine ⟨g.c0, g.c1, g.rate, g.limit, g.qlen, g.qty, g.seed, g.days, g.day, ⟨by show (s.quotes.set i p).length = 6; rw [List.length_set]; exact g.quotes.len, fun n hn => ?_⟩, g.deals, g.fixes, g.net⟩
  rcases List.mem_or_eq_of_mem_set hn with h | h
  · exact g.quotes.all n h
  · rw [h]
    exact hp
theorem good_order {s : State} (g : Good s) {d : Deal} (hd : DealOk d) (hl : s.deals.length < 10) : Good { s with deals := s.deals ++ [d] } := by
  refine ⟨g.c0, g.c1, g.rate, g.limit, g.qlen, g.qty, g.seed, g.days, g.day, g.quotes, ⟨by show (s.deals ++ [d]).length ≤ 10; rw [List.length_append]; show s.deals.length + 1 ≤ 10; omega, fun e he => ?_⟩, g.fixes, g.net⟩
  rcases List.mem_append.mp he with h | h
  · exact g.deals.all e h
  · rw [List.mem_singleton.mp h]
    exact hd
theorem good_close {s : State} (g : Good s) (hl : s.days.length < 60) {v u : Int} {fee : Nat} (hv : 1 ≤ v) (hv2 : v ≤ 1000000000000000) (hu : 1 ≤ u) :
    Good { s with days := s.days ++ [{ quotes := s.quotes, deals := s.deals, value := v, units := u, fee := fee, first := s.deals.map (done v u), feeNow := fee, outs := s.deals.map (done v u) }], deals := [] } := by
  refine ⟨g.c0, g.c1, g.rate, g.limit, g.qlen, g.qty, g.seed, by show (s.days ++ [_]).length ≤ 60; rw [List.length_append]; show s.days.length + 1 ≤ 60; omega, fun e he => ?_, g.quotes, ⟨by show 0 ≤ 10; omega, fun e he => by cases he⟩, g.fixes, g.net⟩
  rcases List.mem_append.mp he with h | h
  · exact g.day e h
  · rw [List.mem_singleton.mp h]
    exact ⟨g.quotes, g.deals, hv, hv2, hu, outs_done hv hu g.deals, outs_done hv hu g.deals⟩
theorem good_fix {s : State} (g : Good s) {n i p : Nat} (hn : 1 ≤ n ∧ n ≤ 60) (hi : 1 ≤ i ∧ i ≤ 6) (hp : p ≤ 1000000000000) (hl : (s.fixes.filter fun (f : Fix) => !(f.day == n && f.thing == i)).length < 60) :
    Good { s with fixes := (s.fixes.filter fun (f : Fix) => !(f.day == n && f.thing == i)) ++ [{ day := n, thing := i, quote := p }] } := by
  have f := g.fixes
  have sub : ∀ x, x ∈ (s.fixes.filter fun (f : Fix) => !(f.day == n && f.thing == i)) → x ∈ s.fixes := fun x hx => (List.mem_filter.mp hx).1
  refine ⟨g.c0, g.c1, g.rate, g.limit, g.qlen, g.qty, g.seed, g.days, g.day, g.quotes, g.deals, ⟨?_, ?_, ?_, ?_, ?_⟩, g.net⟩
  · show ((s.fixes.filter fun (f : Fix) => !(f.day == n && f.thing == i)) ++ [_]).length ≤ 60
    rw [List.length_append]
    show (s.fixes.filter fun (f : Fix) => !(f.day == n && f.thing == i)).length + 1 ≤ 60
    omega
  · intro x hx
    rcases List.mem_append.mp hx with h | h
    · exact f.day x (sub x h)
    · rw [List.mem_singleton.mp h]
      exact hn
  · intro x hx
    rcases List.mem_append.mp hx with h | h
    · exact f.thing x (sub x h)
    · rw [List.mem_singleton.mp h]
      exact hi
  · intro x hx
    rcases List.mem_append.mp hx with h | h
    · exact f.quote x (sub x h)
    · rw [List.mem_singleton.mp h]
      exact hp
  · show (((s.fixes.filter fun (f : Fix) => !(f.day == n && f.thing == i)) ++ [({ day := n, thing := i, quote := p } : Fix)]).map fun (f : Fix) => (f.day, f.thing)).Nodup
    (rw [List.map_append, List.nodup_append])
    refine ⟨?_, by simp, fun a ha b hb => ?_⟩
    · exact List.Nodup.sublist (List.Sublist.map _ List.filter_sublist) f.nd
    · obtain ⟨x, hx, rfl⟩ := List.mem_map.mp ha
      have h2 := (List.mem_filter.mp hx).2
      have hb' : b = (n, i) := by simpa using hb
      subst hb'
      intro e
      have e1 : x.day = n := congrArg Prod.fst e
      have e2 : x.thing = i := congrArg Prod.snd e
      rw [e1, e2] at h2
      simp at h2
theorem good_putright {s : State} (g : Good s) : Good (corrected s) := by
  refine ⟨g.c0, g.c1, g.rate, g.limit, g.qlen, g.qty, g.seed, ?_, fun e he => ?_, g.quotes, g.deals, g.fixes, ?_⟩
  · show ((s.days.zip (rights s)).map _).length ≤ 60
    have := g.days
    rw [List.length_map, List.length_zip]
    omega
  · obtain ⟨p, hp, rfl⟩ := List.mem_map.mp he
    obtain ⟨d, r⟩ := p
    obtain ⟨i, hi⟩ := List.getElem?_of_mem hp
    obtain ⟨h1, h2⟩ := of_zip hi
    have ok := g.dayAt h1
    rw [rights_at h1] at h2
    cases h2
    exact ⟨ok.quotes, ok.deals, ok.v1, ok.v2, ok.u1, ok.first, (judged_outs ok : OutsOk d.deals.length (judged s (i + 1) d (bookTo s i)).outs)⟩
  · show (holders.map _).length = 10
    rfl
end My
set_option Elab.async false
set_option linter.all false
set_option maxRecDepth 100000
set_option maxHeartbeats 2000000
namespace My
open PySem PySem.Spec PyProof.Rows L2
open Vbfuam (State Deal Out Day Fix Book Right)
inductive P2 {α β : Type} (R : α → β → Prop) : List α → List β → Prop
  | nil : P2 R [] []
  | cons {a : α} {b : β} {as : List α} {bs : List β} : R a b → P2 R as bs → P2 R (a :: as) (b :: bs)
section
variable {α β γ : Type} {R S : α → β → Prop}
theorem P2.len : ∀ {as : List α} {bs : List β}, P2 R as bs → as.length = bs.length
  | _, _, .nil => rfl
  | _, _, .cons _ t => congrArg (· + 1) t.len
theorem P2.imp (f : ∀ a b, R a b → S a b) : ∀ {as : List α} {bs : List β}, P2 R as bs → P2 S as bs
  | _, _, .nil => .nil
  | _, _, .cons h t => .cons (f _ _ h) (t.imp f)
theorem P2.get : ∀ {as : List α} {bs : List β} {i : Nat} {a : α} {b : β}, P2 R as bs → as[i]? = some a → bs[i]? = some b → R a b
  | _, _, _, _, _, .nil, h, _ => by simp at h
  | _, _, 0, _, _, .cons h _, e, e2 => by
    have e : _ = _ := Option.some.inj e
    have e2 : _ = _ := Option.some.inj e2
    subst e e2
    exact h
  | _, _, i + 1, _, _, .cons _ t, e, e2 => t.get (i := i) e e2
theorem P2.left {as : List α} {bs : List β} {i : Nat} {b : β} (h : P2 R as bs) (e : bs[i]? = some b) : ∃ a, as[i]? = some a ∧ R a b := by
  have hl := h.len
  have hi : i < as.length := by
    have := (List.getElem?_eq_some_iff.mp e).1
    omega
  exact ⟨as[i], List.getElem?_eq_getElem hi, h.get (List.getElem?_eq_getElem hi) e⟩
theorem P2.right {as : List α} {bs : List β} {i : Nat} {a : α} (h : P2 R as bs) (e : as[i]? = some a) : ∃ b, bs[i]? = some b ∧ R a b := by
  have hl := h.len
  have hi : i < bs.length := by
    have := (List.getElem?_eq_some_iff.mp e).1
    omega
  exact ⟨bs[i], List.getElem?_eq_getElem hi, h.get e (List.getElem?_eq_getElem hi)⟩
theorem P2.snoc {a : α} {b : β} (r : R a b) : ∀ {as : List α} {bs : List β}, P2 R as bs → P2 R (as ++ [a]) (bs ++ [b])
  | _, _, .nil => .cons r .nil
  | _, _, .cons h t => .cons h (t.snoc r)
theorem P2.mem {as : List α} {bs : List β} {a : α} (h : P2 R as bs) (m : a ∈ as) : ∃ b, b ∈ bs ∧ R a b := by
  obtain ⟨i, e⟩ := List.getElem?_of_mem m
  obtain ⟨b, e2, r⟩ := h.right e
  exact ⟨b, List.mem_of_getElem? e2, r⟩
theorem P2.impMem : ∀ {as : List α} {bs : List β}, P2 R as bs → (∀ a b, a ∈ as → R a b → S a b) → P2 S as bs
  | _, _, .nil, _ => .nil
  | _, _, .cons h t, f => .cons (f _ _ List.mem_cons_self h) (t.impMem fun a b m r => f a b (List.mem_cons_of_mem _ m) r)
end
structure Ex (M : List Addr) (G H G' H' : Hp) : Prop where
  gg : Same G G'
  gh : Same G' H'
  hh : ∀ a o, H a = some o → a ∉ M → H' a = some o
  dm : ∀ a, H a ≠ Option.none → H' a ≠ Option.none
  no : ∀ a, H a ≠ Option.none → G a = Option.none → a ∉ M → G' a = Option.none
theorem some_ne {α : Type} {x : Option α} {o : α} (h : x = some o) : x ≠ Option.none := by rw [h]; exact fun q => nomatch q
theorem upd_some {H : Hp} {p : Addr} {o : HO} {a : Addr} (h : H a ≠ Option.none) : upd H p o a ≠ Option.none := by
  unfold upd
  split
  · exact fun q => nomatch q
  · exact h
theorem none_of_same {G H : Hp} (s : Same G H) {a : Addr} (h : H a = Option.none) : G a = Option.none := s.free h
theorem same_upd {G H : Hp} (s : Same G H) {p : Addr} {o : HO} (h : G p = Option.none) : Same G (L2.upd H p o) := fun b u e => by
  rw [upd_ne (ne_of_none e h)]
  exact s b u e
theorem same_upd2 {G H : Hp} (s : Same G H) {p : Addr} {o : HO} : Same (L2.upd G p o) (L2.upd H p o) := fun b u e => by
  by_cases q : b = p
  · subst q
    rw [upd_same] at e ⊢
    exact e
  · rw [upd_ne q] at e ⊢
    exact s b u e
theorem same_new {H : Hp} {p : Addr} {o : HO} (h : H p = Option.none) : Same H (L2.upd H p o) := same_upd (Same.refl H) h
section
variable {M N : List Addr} {G H G' H' G'' H'' : Hp} {p x dx : Addr} {o : HO}
theorem Ex.refl (s : Same G H) : Ex [] G H G H := ⟨.refl G, s, fun _ _ e _ => e, fun _ h => h, fun _ _ h _ => h⟩
theorem Ex.trans (a : Ex M G H G' H') (b : Ex N G' H' G'' H'') : Ex (M ++ N) G H G'' H'' where
  gg := a.gg.trans b.gg
  gh := b.gh
  hh := fun c o e hc => b.hh c o (a.hh c o e fun q => hc (List.mem_append_left _ q)) fun q => hc (List.mem_append_right _ q)
  dm := fun c h => b.dm c (a.dm c h)
  no := fun c h g hc => b.no c (a.dm c h) (a.no c h g fun q => hc (List.mem_append_left _ q)) fun q => hc (List.mem_append_right _ q)
theorem Ex.trans0 (a : Ex [] G H G' H') (b : Ex [] G' H' G'' H'') : Ex [] G H G'' H'' := a.trans b
theorem Ex.weak (a : Ex M G H G' H') (h : ∀ c ∈ M, c ∈ N) : Ex N G H G' H' :=
  ⟨a.gg, a.gh, fun c o e hc => a.hh c o e fun q => hc (h c q), a.dm, fun c h1 h2 hc => a.no c h1 h2 fun q => hc (h c q)⟩
theorem Ex.drop (a : Ex M G H G' H') (h : ∀ c ∈ M, c ∈ N ∨ H c = Option.none) : Ex N G H G' H' :=
  ⟨a.gg, a.gh, fun c o e hc => a.hh c o e fun q => (h c q).elim hc fun z => by (rw [z] at e; cases e), a.dm, fun c h1 h2 hc => a.no c h1 h2 fun q => (h c q).elim hc fun z => h1 z⟩
theorem Ex.new (s : Same G H) (h : H p = Option.none) : Ex [] G H G (upd H p o) :=
  ⟨.refl G, same_upd s (s.free h), fun c u e _ => (by rw [upd_ne (ne_of_none e h)]; exact e), fun _ q => upd_some q, fun _ _ q _ => q⟩
theorem Ex.newG (s : Same G H) (h : H p = Option.none) : Ex [] G H (upd G p o) (upd H p o) :=
  ⟨same_new (s.free h), same_upd2 s, fun c u e _ => (by rw [upd_ne (ne_of_none e h)]; exact e), fun _ q => upd_some q,
    fun c q g _ => (by rw [upd_ne (fun z => q (by rw [z]; exact h))]; exact g)⟩
theorem Ex.made (s : Same G H) (hx : H x = Option.none) (hd : H dx = Option.none) (hn : dx ≠ x) : Ex [] G H (upd (upd G dx (.own x)) x o) (upd (upd H dx (.own x)) x o) :=
  (Ex.newG (o := .own x) s hd).trans0 (Ex.newG (Ex.newG (o := .own x) s hd).gh (by rw [upd_ne (fun z => hn z.symm)]; exact hx))
theorem Ex.madeM (s : Same G H) (hx : H x = Option.none) (hd : H dx = Option.none) (hn : dx ≠ x) : Ex [] G H G (upd (upd H dx (.own x)) x o) :=
  (Ex.new (o := .own x) s hd).trans0 (Ex.new (Ex.new (o := .own x) s hd).gh (by rw [upd_ne (fun z => hn z.symm)]; exact hx))
theorem Ex.put (s : Same G H) (h : G p = Option.none) (hp : H p ≠ Option.none) : Ex [p] G H G (upd H p o) :=
  ⟨.refl G, same_upd s h, fun c u e hc => (by rw [upd_ne (fun z => hc (by simp [z]))]; exact e), fun _ q => upd_some q, fun _ _ q _ => q⟩
theorem Ex.keep (a : Ex M G H G' H') {c : Addr} {u : HO} (e : H c = some u) (h : c ∉ M) : H' c = some u := a.hh c u e h
theorem Ex.keep0 (a : Ex [] G H G' H') {c : Addr} {u : HO} (e : H c = some u) : H' c = some u := a.hh c u e (by simp)
theorem Ex.same0 (a : Ex [] G H G' H') : Same H H' := fun c u e => a.keep0 e
theorem Ex.apart (a : Ex M G H G' H') {c : Addr} {u : HO} (e : H c = some u) (g : G c = Option.none) (h : c ∉ M) : G' c = Option.none := a.no c (some_ne e) g h
theorem Ex.freeH (a : Ex M G H G' H') {c : Addr} (h : H' c = Option.none) : H c = Option.none := by
  cases e : H c with
  | none => rfl
  | some u => exact absurd h (a.dm c (some_ne e))
end
structure Ad where
  cDeal : Addr
  cOut : Addr
  cRes : Addr
  cBook : Addr
  cTerms : Addr
  cRec : Addr
  cDay : Addr
  cRight : Addr
  cPut : Addr
  cFund : Addr
  cRead : Addr
abbrev Fs := List (Str × V)
def fDeal (h k m : V) : Fs := [("holder", h), ("kind", k), ("amount", m)]
def fOut (m u : V) : Fs := [("money", m), ("units", u)]
def fRes (f l : V) : Fs := [("fee", f), ("outcomes", l)]
def fBook (c l : V) : Fs := [("cash", c), ("units", l)]
def fTerms (c r l q u : V) : Fs := [("first_cash", c), ("rate", r), ("limit", l), ("quantities", q), ("first_units", u)]
def fRec (v u f : V) : Fs := [("value", v), ("units", u), ("fee", f)]
def fDay (q l r p s : V) : Fs := [("quotes", q), ("deals", l), ("reckoning", r), ("published", p), ("standing", s)]
def fRight (r b p : V) : Fs := [("reckoning", r), ("wrong", b), ("result", p)]
def fPut (w o f : V) : Fs := [("wrong_days", w), ("owed", o), ("fees", f)]
def fFund (t q d y c b : V) : Fs := [("terms", t), ("quotes", q), ("deals", d), ("days", y), ("corrections", c), ("balances", b)]
def fRead (c p : V) : Fs := [("calls", c), ("place", p)]
def Ins (H : Hp) (a C : Addr) (fs : Fs) : Prop := ∃ dx, H a = some (.ins C dx fs)
abbrev Ints (H : Hp) (l : Addr) (ns : List Int) : Prop := H l = some (.lst (ns.map V.int))
def nV (n : Nat) : V := .int (n : Int)
abbrev Nats (H : Hp) (l : Addr) (ns : List Nat) : Prop := H l = some (.lst (ns.map nV))
abbrev Refs (H : Hp) (l : Addr) (as : List Addr) : Prop := H l = some (.lst (as.map V.ref))
theorem Ins.mono {H H' : Hp} {a C : Addr} {fs : Fs} (h : Ins H a C fs) (s : Same H H') : Ins H' a C fs := let ⟨dx, e⟩ := h; ⟨dx, s _ _ e⟩
section
variable (A : Ad)
def DealAt (H : Hp) (a : Addr) (d : Deal) : Prop := Ins H a A.cDeal (fDeal (nV d.holder) (nV d.kind) (nV d.amount))
def OutAt (H : Hp) (a : Addr) (o : Out) : Prop := Ins H a A.cOut (fOut (.int o.money) (.int o.units))
def DealsAt (H : Hp) (l : Addr) (ds : List Deal) : Prop := ∃ as, Refs H l as ∧ P2 (DealAt A H) as ds
def OutsAt (H : Hp) (l : Addr) (os : List Out) : Prop := ∃ as, Refs H l as ∧ P2 (OutAt A H) as os
def ResAt (H : Hp) (a : Addr) (fee : Nat) (os : List Out) : Prop := ∃ l, Ins H a A.cRes (fRes (nV fee) (.ref l)) ∧ OutsAt A H l os
def RecAt (H : Hp) (a : Addr) (v u : Int) (f : Nat) : Prop := Ins H a A.cRec (fRec (.int v) (.int u) (nV f))
def TermsAt (H : Hp) (a : Addr) (s : State) : Prop := ∃ q u, Ins H a A.cTerms (fTerms (.int s.cash) (nV s.rate) (nV s.limit) (.ref q) (.ref u)) ∧ Nats H q s.qty ∧ Ints H u s.seed
def BookAt (H : Hp) (b l : Addr) (k : Book) : Prop := Ins H b A.cBook (fBook (.int k.cash) (.ref l)) ∧ Ints H l k.units
def DayAt (G H : Hp) (a : Addr) (d : Day) : Prop := ∃ q l r p s, Ins H a A.cDay (fDay (.ref q) (.ref l) (.ref r) (.ref p) (.ref s)) ∧ Nats G q d.quotes ∧ DealsAt A G l d.deals ∧
  RecAt A G r d.value d.units d.fee ∧ ResAt A G p d.fee d.first ∧ ResAt A G s d.feeNow d.outs
def RightAt (H : Hp) (a : Addr) (r : Right) : Prop := ∃ c f p, Ins H a A.cRight (fRight (.ref c) (.bl r.wrong) (.ref p)) ∧ RecAt A H c r.value r.units f ∧ ResAt A H p r.fee r.outs
structure FixRel (kvs : List (List Key × V)) (fs : List Fix) : Prop where
  len : kvs.length = fs.length
  get : ∀ n t : Nat, valV kvs [.inl (n : Int), .inl (t : Int)] = (fs.find? fun f => f.day == n && f.thing == t).map fun f => nV f.quote
def FixesAt (H : Hp) (c : Addr) (fs : List Fix) : Prop := ∃ kvs, H c = some (.dT kvs) ∧ FixRel kvs fs
structure FundIs (G H : Hp) (p t q d y c b : Addr) (ys : List Addr) (s : State) : Prop where
  ins : Ins H p A.cFund (fFund (.ref t) (.ref q) (.ref d) (.ref y) (.ref c) (.ref b))
  terms : TermsAt A G t s
  quotes : Nats H q s.quotes
  deals : ∃ as, Refs H d as ∧ P2 (DealAt A G) as s.deals
  list : Refs H y ys
  days : P2 (DayAt A G H) ys s.days
  fixes : FixesAt H c s.fixes
  net : Ints G b s.net
  gp : G p = Option.none
  gq : G q = Option.none
  gd : G d = Option.none
  gy : G y = Option.none
  gc : G c = Option.none
  gs : ∀ a ∈ ys, G a = Option.none
  nd : ys.Nodup
  qd : q ≠ d
  qy : q ≠ y
  dy : d ≠ y
  pys : p ∉ ys
end
section
variable {A : Ad} {G G' H H' : Hp}
theorem DealAt.mono {a : Addr} {d : Deal} (h : DealAt A H a d) (s : Same H H') : DealAt A H' a d := Ins.mono h s
theorem OutAt.mono {a : Addr} {o : Out} (h : OutAt A H a o) (s : Same H H') : OutAt A H' a o := Ins.mono h s
theorem DealsAt.mono {l : Addr} {ds : List Deal} (h : DealsAt A H l ds) (s : Same H H') : DealsAt A H' l ds := let ⟨as, e, p⟩ := h; ⟨as, s _ _ e, p.imp fun _ _ q => q.mono s⟩
theorem OutsAt.mono {l : Addr} {os : List Out} (h : OutsAt A H l os) (s : Same H H') : OutsAt A H' l os := let ⟨as, e, p⟩ := h; ⟨as, s _ _ e, p.imp fun _ _ q => q.mono s⟩
theorem ResAt.mono {a : Addr} {f : Nat} {os : List Out} (h : ResAt A H a f os) (s : Same H H') : ResAt A H' a f os := let ⟨l, e, p⟩ := h; ⟨l, e.mono s, p.mono s⟩
theorem RecAt.mono {a : Addr} {v u : Int} {f : Nat} (h : RecAt A H a v u f) (s : Same H H') : RecAt A H' a v u f := Ins.mono h s
theorem TermsAt.mono {a : Addr} {t : State} (h : TermsAt A H a t) (s : Same H H') : TermsAt A H' a t := let ⟨q, u, e, p, r⟩ := h; ⟨q, u, e.mono s, s _ _ p, s _ _ r⟩
theorem BookAt.mono {b l : Addr} {k : Book} (h : BookAt A H b l k) (s : Same H H') : BookAt A H' b l k := ⟨h.1.mono s, s _ _ h.2⟩
theorem RightAt.mono {a : Addr} {r : Right} (h : RightAt A H a r) (s : Same H H') : RightAt A H' a r := let ⟨c, f, p, e, q1, q2⟩ := h; ⟨c, f, p, e.mono s, q1.mono s, q2.mono s⟩
theorem DayAt.mono {a : Addr} {d : Day} (h : DayAt A G H a d) (s : Same G G') (t : ∀ o, H a = some o → H' a = some o) : DayAt A G' H' a d :=
  let ⟨q, l, r, p, st, ⟨dx, e⟩, h1, h2, h3, h4, h5⟩ := h
  ⟨q, l, r, p, st, ⟨dx, t _ e⟩, s _ _ h1, h2.mono s, h3.mono s, h4.mono s, h5.mono s⟩
end
end My
set_option Elab.async false
set_option linter.all false
set_option maxRecDepth 100000
set_option maxHeartbeats 2000000
namespace My
open PySem PySem.Spec PyProof.Rows L2
def top (i : Nat) : Stmt := PySem.Challenge.pw_pricesright_s01_answers.main.body.getD i (.Pass ⟨0, 0, 0, 0⟩)
abbrev s_Deal_init : Stmt := inClass (top 1) 0
abbrev s_Outcome_init : Stmt := inClass (top 2) 0
abbrev s_DayResult_init : Stmt := inClass (top 3) 0
abbrev s_Book_init : Stmt := inClass (top 4) 0
abbrev s_Book_units_of : Stmt := inClass (top 4) 1
abbrev s_Book_units_in_all : Stmt := inClass (top 4) 2
abbrev s_Book_go_past : Stmt := inClass (top 4) 3
abbrev s_Terms_init : Stmt := inClass (top 28) 0
abbrev s_Reckoning_init : Stmt := inClass (top 29) 0
abbrev s_Reckoning_has_price : Stmt := inClass (top 29) 1
abbrev s_first_book : Stmt := top 30
abbrev s_worth_of_things : Stmt := top 31
abbrev s_reckon : Stmt := top 32
abbrev s_outcome_at : Stmt := top 33
abbrev s_result_at : Stmt := top 34
abbrev s_ClosedDay_init : Stmt := inClass (top 36) 0
abbrev s_RightDay_init : Stmt := inClass (top 37) 0
abbrev s_book_behind : Stmt := top 38
abbrev s_right_quotes : Stmt := top 39
abbrev s_is_done_again : Stmt := top 40
abbrev s_right_day : Stmt := top 41
abbrev s_right_history : Stmt := top 42
abbrev s_numbers_of_wrong_days : Stmt := top 43
abbrev s_add_owed : Stmt := top 44
abbrev s_owed_to_holders : Stmt := top 45
abbrev s_PutRight_init : Stmt := inClass (top 47) 0
abbrev s_Fund_init : Stmt := inClass (top 48) 0
abbrev s_Fund_begin_anew : Stmt := inClass (top 48) 1
abbrev s_Fund_standing_book : Stmt := inClass (top 48) 2
abbrev s_Fund_history : Stmt := inClass (top 48) 3
abbrev s_Fund_right_book : Stmt := inClass (top 48) 4
abbrev s_Fund_owed_to_each : Stmt := inClass (top 48) 5
abbrev s_Fund_asked_back : Stmt := inClass (top 48) 6
abbrev s_Fund_units_left : Stmt := inClass (top 48) 7
abbrev s_Fund_reckon_today : Stmt := inClass (top 48) 8
abbrev s_Fund_close_today : Stmt := inClass (top 48) 9
abbrev s_Fund_put_right : Stmt := inClass (top 48) 10
abbrev s_new_fund : Stmt := top 49
abbrev s_is_row : Stmt := top 51
abbrev s_is_thing : Stmt := top 52
abbrev s_is_holder : Stmt := top 53
abbrev s_is_quote : Stmt := top 54
abbrev s_day_refusal : Stmt := top 55
abbrev s_answer_begin : Stmt := top 56
abbrev s_answer_quote : Stmt := top 57
abbrev s_answer_order : Stmt := top 58
abbrev s_answer_close : Stmt := top 59
abbrev s_answer_fix : Stmt := top 60
abbrev s_answer_putright : Stmt := top 61
abbrev s_answer_day : Stmt := top 62
abbrev s_answer_right : Stmt := top 63
abbrev s_answer_outcome : Stmt := top 64
abbrev s_answer_holder : Stmt := top 65
abbrev s_book_answer : Stmt := top 66
abbrev s_answer_book : Stmt := top 67
abbrev s_answer_rightbook : Stmt := top 68
abbrev s_answer_owed : Stmt := top 69
abbrev s_answer_wrongs : Stmt := top 70
abbrev s_answer_counts : Stmt := top 71
abbrev s_CallReader_init : Stmt := inClass (top 73) 0
abbrev s_CallReader_at_end : Stmt := inClass (top 73) 1
abbrev s_CallReader_take_number : Stmt := inClass (top 73) 2
abbrev s_CallReader_take_several : Stmt := inClass (top 73) 3
abbrev s_CallReader_take_row : Stmt := inClass (top 73) 4
abbrev s_answers : Stmt := top 74
abbrev N_Deal_init : List Str := ["self", "holder", "kind", "amount"]
theorem sc_Deal_init : FnScope N_Deal_init ["self", "holder", "kind", "amount"] (defScope s_Deal_init) := ⟨rfl, rfl, rfl, by decide +kernel, rfl, by decide +kernel, by decide +kernel⟩
abbrev N_Outcome_init : List Str := ["self", "money", "units"]
theorem sc_Outcome_init : FnScope N_Outcome_init ["self", "money", "units"] (defScope s_Outcome_init) := ⟨rfl, rfl, rfl, by decide +kernel, rfl, by decide +kernel, by decide +kernel⟩
abbrev N_DayResult_init : List Str := ["self", "fee", "outcomes"]
theorem sc_DayResult_init : FnScope N_DayResult_init ["self", "fee", "outcomes"] (defScope s_DayResult_init) := ⟨rfl, rfl, rfl, by decide +kernel, rfl, by decide +kernel, by decide +kernel⟩
abbrev N_Book_init : List Str := ["self", "cash", "units"]
theorem sc_Book_init : FnScope N_Book_init ["self", "cash", "units"] (defScope s_Book_init) := ⟨rfl, rfl, rfl, by decide +kernel, rfl, by decide +kernel, by decide +kernel⟩
abbrev N_Book_units_of : List Str := ["self", "holder"]
theorem sc_Book_units_of : FnScope N_Book_units_of ["self", "holder"] (defScope s_Book_units_of) := ⟨rfl, rfl, rfl, by decide +kernel, rfl, by decide +kernel, by decide +kernel⟩
abbrev N_Book_units_in_all : List Str := ["self"]
theorem sc_Book_units_in_all : FnScope N_Book_units_in_all ["self"] (defScope s_Book_units_in_all) := ⟨rfl, rfl, rfl, by decide +kernel, rfl, by decide +kernel, by decide +kernel⟩
abbrev N_Book_go_past : List Str := ["self", "deals", "result", "deal", "outcome"]
theorem sc_Book_go_past : FnScope N_Book_go_past ["self", "deals", "result"] (defScope s_Book_go_past) := ⟨rfl, rfl, rfl, by decide +kernel, rfl, by decide +kernel, by decide +kernel⟩
abbrev N_Terms_init : List Str := ["self", "first_cash", "rate", "limit", "quantities", "first_units"]
theorem sc_Terms_init : FnScope N_Terms_init ["self", "first_cash", "rate", "limit", "quantities", "first_units"] (defScope s_Terms_init) := ⟨rfl, rfl, rfl, by decide +kernel, rfl, by decide +kernel, by decide +kernel⟩
abbrev N_Reckoning_init : List Str := ["self", "value", "units", "fee"]
theorem sc_Reckoning_init : FnScope N_Reckoning_init ["self", "value", "units", "fee"] (defScope s_Reckoning_init) := ⟨rfl, rfl, rfl, by decide +kernel, rfl, by decide +kernel, by decide +kernel⟩
abbrev N_Reckoning_has_price : List Str := ["self"]
theorem sc_Reckoning_has_price : FnScope N_Reckoning_has_price ["self"] (defScope s_Reckoning_has_price) := ⟨rfl, rfl, rfl, by decide +kernel, rfl, by decide +kernel, by decide +kernel⟩
abbrev N_first_book : List Str := ["terms"]
theorem sc_first_book : FnScope N_first_book ["terms"] (defScope s_first_book) := ⟨rfl, rfl, rfl, by decide +kernel, rfl, by decide +kernel, by decide +kernel⟩
abbrev N_worth_of_things : List Str := ["quantities", "quotes", "millionths", "quantity", "quote"]
theorem sc_worth_of_things : FnScope N_worth_of_things ["quantities", "quotes"] (defScope s_worth_of_things) := ⟨rfl, rfl, rfl, by decide +kernel, rfl, by decide +kernel, by decide +kernel⟩
abbrev N_reckon : List Str := ["terms", "book", "quotes", "gross", "fee"]
theorem sc_reckon : FnScope N_reckon ["terms", "book", "quotes"] (defScope s_reckon) := ⟨rfl, rfl, rfl, by decide +kernel, rfl, by decide +kernel, by decide +kernel⟩
abbrev N_outcome_at : List Str := ["deal", "reckoning", "paid"]
theorem sc_outcome_at : FnScope N_outcome_at ["deal", "reckoning"] (defScope s_outcome_at) := ⟨rfl, rfl, rfl, by decide +kernel, rfl, by decide +kernel, by decide +kernel⟩
abbrev N_result_at : List Str := ["deals", "reckoning", "deal"]
theorem sc_result_at : FnScope N_result_at ["deals", "reckoning"] (defScope s_result_at) := ⟨rfl, rfl, rfl, by decide +kernel, rfl, by decide +kernel, by decide +kernel⟩
abbrev N_ClosedDay_init : List Str := ["self", "quotes", "deals", "reckoning"]
theorem sc_ClosedDay_init : FnScope N_ClosedDay_init ["self", "quotes", "deals", "reckoning"] (defScope s_ClosedDay_init) := ⟨rfl, rfl, rfl, by decide +kernel, rfl, by decide +kernel, by decide +kernel⟩
abbrev N_RightDay_init : List Str := ["self", "reckoning", "wrong", "result"]
theorem sc_RightDay_init : FnScope N_RightDay_init ["self", "reckoning", "wrong", "result"] (defScope s_RightDay_init) := ⟨rfl, rfl, rfl, by decide +kernel, rfl, by decide +kernel, by decide +kernel⟩
abbrev N_book_behind : List Str := ["terms", "days", "results", "book", "day", "result"]
theorem sc_book_behind : FnScope N_book_behind ["terms", "days", "results"] (defScope s_book_behind) := ⟨rfl, rfl, rfl, by decide +kernel, rfl, by decide +kernel, by decide +kernel⟩
abbrev N_right_quotes : List Str := ["quotes", "number", "corrections", "thing", "quote"]
theorem sc_right_quotes : FnScope N_right_quotes ["quotes", "number", "corrections"] (defScope s_right_quotes) := ⟨rfl, rfl, rfl, by decide +kernel, rfl, by decide +kernel, by decide +kernel⟩
abbrev N_is_done_again : List Str := ["limit", "published", "right", "right_cross", "difference"]
theorem sc_is_done_again : FnScope N_is_done_again ["limit", "published", "right"] (defScope s_is_done_again) := ⟨rfl, rfl, rfl, by decide +kernel, rfl, by decide +kernel, by decide +kernel⟩
abbrev N_right_day : List Str := ["terms", "book", "day", "quotes", "right", "wrong"]
theorem sc_right_day : FnScope N_right_day ["terms", "book", "day", "quotes"] (defScope s_right_day) := ⟨rfl, rfl, rfl, by decide +kernel, rfl, by decide +kernel, by decide +kernel⟩
abbrev N_right_history : List Str := ["terms", "days", "corrections", "book", "history", "number", "day", "right"]
theorem sc_right_history : FnScope N_right_history ["terms", "days", "corrections"] (defScope s_right_history) := ⟨rfl, rfl, rfl, by decide +kernel, rfl, by decide +kernel, by decide +kernel⟩
abbrev N_numbers_of_wrong_days : List Str := ["history", "number", "right"]
theorem sc_numbers_of_wrong_days : FnScope N_numbers_of_wrong_days ["history"] (defScope s_numbers_of_wrong_days) := ⟨rfl, rfl, rfl, by decide +kernel, rfl, by decide +kernel, by decide +kernel⟩
abbrev N_add_owed : List Str := ["owed", "day", "right", "deal", "stands", "should_be"]
theorem sc_add_owed : FnScope N_add_owed ["owed", "day", "right"] (defScope s_add_owed) := ⟨rfl, rfl, rfl, by decide +kernel, rfl, by decide +kernel, by decide +kernel⟩
abbrev N_owed_to_holders : List Str := ["days", "history", "owed", "day", "right"]
theorem sc_owed_to_holders : FnScope N_owed_to_holders ["days", "history"] (defScope s_owed_to_holders) := ⟨rfl, rfl, rfl, by decide +kernel, rfl, by decide +kernel, by decide +kernel⟩
abbrev N_PutRight_init : List Str := ["self", "wrong_days", "owed", "fees"]
theorem sc_PutRight_init : FnScope N_PutRight_init ["self", "wrong_days", "owed", "fees"] (defScope s_PutRight_init) := ⟨rfl, rfl, rfl, by decide +kernel, rfl, by decide +kernel, by decide +kernel⟩
abbrev N_Fund_init : List Str := ["self", "terms"]
theorem sc_Fund_init : FnScope N_Fund_init ["self", "terms"] (defScope s_Fund_init) := ⟨rfl, rfl, rfl, by decide +kernel, rfl, by decide +kernel, by decide +kernel⟩
abbrev N_Fund_begin_anew : List Str := ["self", "terms"]
theorem sc_Fund_begin_anew : FnScope N_Fund_begin_anew ["self", "terms"] (defScope s_Fund_begin_anew) := ⟨rfl, rfl, rfl, by decide +kernel, rfl, by decide +kernel, by decide +kernel⟩
abbrev N_Fund_standing_book : List Str := ["self", "day"]
theorem sc_Fund_standing_book : FnScope N_Fund_standing_book ["self"] (defScope s_Fund_standing_book) := ⟨rfl, rfl, rfl, by decide +kernel, rfl, by decide +kernel, by decide +kernel⟩
abbrev N_Fund_history : List Str := ["self"]
theorem sc_Fund_history : FnScope N_Fund_history ["self"] (defScope s_Fund_history) := ⟨rfl, rfl, rfl, by decide +kernel, rfl, by decide +kernel, by decide +kernel⟩
abbrev N_Fund_right_book : List Str := ["self", "right"]
theorem sc_Fund_right_book : FnScope N_Fund_right_book ["self"] (defScope s_Fund_right_book) := ⟨rfl, rfl, rfl, by decide +kernel, rfl, by decide +kernel, by decide +kernel⟩
abbrev N_Fund_owed_to_each : List Str := ["self"]
theorem sc_Fund_owed_to_each : FnScope N_Fund_owed_to_each ["self"] (defScope s_Fund_owed_to_each) := ⟨rfl, rfl, rfl, by decide +kernel, rfl, by decide +kernel, by decide +kernel⟩
abbrev N_Fund_asked_back : List Str := ["self", "holder", "deal"]
theorem sc_Fund_asked_back : FnScope N_Fund_asked_back ["self", "holder"] (defScope s_Fund_asked_back) := ⟨rfl, rfl, rfl, by decide +kernel, rfl, by decide +kernel, by decide +kernel⟩
abbrev N_Fund_units_left : List Str := ["self", "holder"]
theorem sc_Fund_units_left : FnScope N_Fund_units_left ["self", "holder"] (defScope s_Fund_units_left) := ⟨rfl, rfl, rfl, by decide +kernel, rfl, by decide +kernel, by decide +kernel⟩
abbrev N_Fund_reckon_today : List Str := ["self"]
theorem sc_Fund_reckon_today : FnScope N_Fund_reckon_today ["self"] (defScope s_Fund_reckon_today) := ⟨rfl, rfl, rfl, by decide +kernel, rfl, by decide +kernel, by decide +kernel⟩
abbrev N_Fund_close_today : List Str := ["self", "reckoning"]
theorem sc_Fund_close_today : FnScope N_Fund_close_today ["self", "reckoning"] (defScope s_Fund_close_today) := ⟨rfl, rfl, rfl, by decide +kernel, rfl, by decide +kernel, by decide +kernel⟩
abbrev N_Fund_put_right : List Str := ["self", "history", "owed", "fees", "day", "right", "balance", "more"]
theorem sc_Fund_put_right : FnScope N_Fund_put_right ["self"] (defScope s_Fund_put_right) := ⟨rfl, rfl, rfl, by decide +kernel, rfl, by decide +kernel, by decide +kernel⟩
abbrev N_new_fund : List Str := []
theorem sc_new_fund : FnScope N_new_fund [] (defScope s_new_fund) := ⟨rfl, rfl, rfl, by decide +kernel, rfl, by decide +kernel, by decide +kernel⟩
abbrev N_is_row : List Str := ["row", "length", "most", "number"]
theorem sc_is_row : FnScope N_is_row ["row", "length", "most"] (defScope s_is_row) := ⟨rfl, rfl, rfl, by decide +kernel, rfl, by decide +kernel, by decide +kernel⟩
abbrev N_is_thing : List Str := ["thing"]
theorem sc_is_thing : FnScope N_is_thing ["thing"] (defScope s_is_thing) := ⟨rfl, rfl, rfl, by decide +kernel, rfl, by decide +kernel, by decide +kernel⟩
abbrev N_is_holder : List Str := ["holder"]
theorem sc_is_holder : FnScope N_is_holder ["holder"] (defScope s_is_holder) := ⟨rfl, rfl, rfl, by decide +kernel, rfl, by decide +kernel, by decide +kernel⟩
abbrev N_is_quote : List Str := ["quote"]
theorem sc_is_quote : FnScope N_is_quote ["quote"] (defScope s_is_quote) := ⟨rfl, rfl, rfl, by decide +kernel, rfl, by decide +kernel, by decide +kernel⟩
abbrev N_day_refusal : List Str := ["fund", "number"]
theorem sc_day_refusal : FnScope N_day_refusal ["fund", "number"] (defScope s_day_refusal) := ⟨rfl, rfl, rfl, by decide +kernel, rfl, by decide +kernel, by decide +kernel⟩
abbrev N_answer_begin : List Str := ["fund", "told", "terms"]
theorem sc_answer_begin : FnScope N_answer_begin ["fund", "told"] (defScope s_answer_begin) := ⟨rfl, rfl, rfl, by decide +kernel, rfl, by decide +kernel, by decide +kernel⟩
abbrev N_answer_quote : List Str := ["fund", "told", "thing", "quote", "before"]
theorem sc_answer_quote : FnScope N_answer_quote ["fund", "told"] (defScope s_answer_quote) := ⟨rfl, rfl, rfl, by decide +kernel, rfl, by decide +kernel, by decide +kernel⟩
abbrev N_answer_order : List Str := ["fund", "told", "deal"]
theorem sc_answer_order : FnScope N_answer_order ["fund", "told"] (defScope s_answer_order) := ⟨rfl, rfl, rfl, by decide +kernel, rfl, by decide +kernel, by decide +kernel⟩
abbrev N_answer_close : List Str := ["fund", "told", "reckoning"]
theorem sc_answer_close : FnScope N_answer_close ["fund", "told"] (defScope s_answer_close) := ⟨rfl, rfl, rfl, by decide +kernel, rfl, by decide +kernel, by decide +kernel⟩
abbrev N_answer_fix : List Str := ["fund", "told", "number", "thing", "quote", "refusal", "place"]
theorem sc_answer_fix : FnScope N_answer_fix ["fund", "told"] (defScope s_answer_fix) := ⟨rfl, rfl, rfl, by decide +kernel, rfl, by decide +kernel, by decide +kernel⟩
abbrev N_answer_putright : List Str := ["fund", "told", "done"]
theorem sc_answer_putright : FnScope N_answer_putright ["fund", "told"] (defScope s_answer_putright) := ⟨rfl, rfl, rfl, by decide +kernel, rfl, by decide +kernel, by decide +kernel⟩
abbrev N_answer_day : List Str := ["fund", "told", "number", "refusal", "day", "published"]
theorem sc_answer_day : FnScope N_answer_day ["fund", "told"] (defScope s_answer_day) := ⟨rfl, rfl, rfl, by decide +kernel, rfl, by decide +kernel, by decide +kernel⟩
abbrev N_answer_right : List Str := ["fund", "told", "number", "refusal", "right"]
theorem sc_answer_right : FnScope N_answer_right ["fund", "told"] (defScope s_answer_right) := ⟨rfl, rfl, rfl, by decide +kernel, rfl, by decide +kernel, by decide +kernel⟩
abbrev N_answer_outcome : List Str := ["fund", "told", "number", "place", "refusal", "day", "right", "answer", "result", "outcome"]
theorem sc_answer_outcome : FnScope N_answer_outcome ["fund", "told"] (defScope s_answer_outcome) := ⟨rfl, rfl, rfl, by decide +kernel, rfl, by decide +kernel, by decide +kernel⟩
abbrev N_answer_holder : List Str := ["fund", "told", "holder", "stands", "should_be"]
theorem sc_answer_holder : FnScope N_answer_holder ["fund", "told"] (defScope s_answer_holder) := ⟨rfl, rfl, rfl, by decide +kernel, rfl, by decide +kernel, by decide +kernel⟩
abbrev N_book_answer : List Str := ["book"]
theorem sc_book_answer : FnScope N_book_answer ["book"] (defScope s_book_answer) := ⟨rfl, rfl, rfl, by decide +kernel, rfl, by decide +kernel, by decide +kernel⟩
abbrev N_answer_book : List Str := ["fund", "told"]
theorem sc_answer_book : FnScope N_answer_book ["fund", "told"] (defScope s_answer_book) := ⟨rfl, rfl, rfl, by decide +kernel, rfl, by decide +kernel, by decide +kernel⟩
abbrev N_answer_rightbook : List Str := ["fund", "told"]
theorem sc_answer_rightbook : FnScope N_answer_rightbook ["fund", "told"] (defScope s_answer_rightbook) := ⟨rfl, rfl, rfl, by decide +kernel, rfl, by decide +kernel, by decide +kernel⟩
abbrev N_answer_owed : List Str := ["fund", "told"]
theorem sc_answer_owed : FnScope N_answer_owed ["fund", "told"] (defScope s_answer_owed) := ⟨rfl, rfl, rfl, by decide +kernel, rfl, by decide +kernel, by decide +kernel⟩
abbrev N_answer_wrongs : List Str := ["fund", "told", "wrong"]
theorem sc_answer_wrongs : FnScope N_answer_wrongs ["fund", "told"] (defScope s_answer_wrongs) := ⟨rfl, rfl, rfl, by decide +kernel, rfl, by decide +kernel, by decide +kernel⟩
abbrev N_answer_counts : List Str := ["fund", "told"]
theorem sc_answer_counts : FnScope N_answer_counts ["fund", "told"] (defScope s_answer_counts) := ⟨rfl, rfl, rfl, by decide +kernel, rfl, by decide +kernel, by decide +kernel⟩
abbrev N_CallReader_init : List Str := ["self", "calls"]
theorem sc_CallReader_init : FnScope N_CallReader_init ["self", "calls"] (defScope s_CallReader_init) := ⟨rfl, rfl, rfl, by decide +kernel, rfl, by decide +kernel, by decide +kernel⟩
abbrev N_CallReader_at_end : List Str := ["self"]
theorem sc_CallReader_at_end : FnScope N_CallReader_at_end ["self"] (defScope s_CallReader_at_end) := ⟨rfl, rfl, rfl, by decide +kernel, rfl, by decide +kernel, by decide +kernel⟩
abbrev N_CallReader_take_number : List Str := ["self", "number"]
theorem sc_CallReader_take_number : FnScope N_CallReader_take_number ["self"] (defScope s_CallReader_take_number) := ⟨rfl, rfl, rfl, by decide +kernel, rfl, by decide +kernel, by decide +kernel⟩
abbrev N_CallReader_take_several : List Str := ["self", "length", "several"]
theorem sc_CallReader_take_several : FnScope N_CallReader_take_several ["self", "length"] (defScope s_CallReader_take_several) := ⟨rfl, rfl, rfl, by decide +kernel, rfl, by decide +kernel, by decide +kernel⟩
abbrev N_CallReader_take_row : List Str := ["self"]
theorem sc_CallReader_take_row : FnScope N_CallReader_take_row ["self"] (defScope s_CallReader_take_row) := ⟨rfl, rfl, rfl, by decide +kernel, rfl, by decide +kernel, by decide +kernel⟩
abbrev N_answers : List Str := ["calls", "fund", "reader", "given", "call", "told", "turn", "answer_call", "answer"]
theorem sc_answers : FnScope N_answers ["calls"] (defScope s_answers) := ⟨rfl, rfl, rfl, by decide +kernel, rfl, by decide +kernel, by decide +kernel⟩
def FunG (K : PySem.W.Frag) (mg : Str → Option Value) (x : Str) (st : Stmt) : Prop := ∃ f fd, Fun K x x st f fd ∧ mg x = some (.ref f)
def FunM (K : PySem.W.Frag) (C : Addr) (m qual : Str) (st : Stmt) : Prop := ∃ f fd, Fun K m qual st f fd ∧ Meth K C m f
def FunI (K : PySem.W.Frag) (mg : Str → Option Value) (x : Str) (C : Addr) (qual : Str) (st : Stmt) : Prop := ∃ f fd, Fun K "__init__" qual st f fd ∧ Mk K C f ∧ mg x = some (.ref C)
structure Txt (K : PySem.W.Frag) (mg : Str → Option Value) (A : Ad) : Prop where
  b_len : mg "len" = Option.none
  b_sum : mg "sum" = Option.none
  b_max : mg "max" = Option.none
  b_abs : mg "abs" = Option.none
  b_all : mg "all" = Option.none
  b_list : mg "list" = Option.none
  b_zip : mg "zip" = Option.none
  b_enumerate : mg "enumerate" = Option.none
  b_range : mg "range" = Option.none
  g_THINGS : ∃ t, mg "THINGS" = some (.int (6) t)
  g_HOLDERS : ∃ t, mg "HOLDERS" = some (.int (10) t)
  g_MOST_DEALS : ∃ t, mg "MOST_DEALS" = some (.int (10) t)
  g_MOST_DAYS : ∃ t, mg "MOST_DAYS" = some (.int (60) t)
  g_MOST_CORRECTIONS : ∃ t, mg "MOST_CORRECTIONS" = some (.int (60) t)
  g_MOST_FIRST_CASH : ∃ t, mg "MOST_FIRST_CASH" = some (.int (1000000000000) t)
  g_MOST_RATE : ∃ t, mg "MOST_RATE" = some (.int (1000000) t)
  g_MOST_LIMIT : ∃ t, mg "MOST_LIMIT" = some (.int (1000000) t)
  g_MOST_QUANTITY : ∃ t, mg "MOST_QUANTITY" = some (.int (1000000) t)
  g_MOST_FIRST_UNITS : ∃ t, mg "MOST_FIRST_UNITS" = some (.int (1000000000000000) t)
  g_MOST_QUOTE : ∃ t, mg "MOST_QUOTE" = some (.int (1000000000000) t)
  g_MOST_AMOUNT : ∃ t, mg "MOST_AMOUNT" = some (.int (1000000000000) t)
  g_MILLION : ∃ t, mg "MILLION" = some (.int (1000000) t)
  g_FEE_PARTS : ∃ t, mg "FEE_PARTS" = some (.int (365000000) t)
  g_MONEY_IN : ∃ t, mg "MONEY_IN" = some (.int (0) t)
  g_UNITS_OUT : ∃ t, mg "UNITS_OUT" = some (.int (1) t)
  g_OUT_OF_RANGE : ∃ t, mg "OUT_OF_RANGE" = some (.int (-1) t)
  g_WRONG_FORM : ∃ t, mg "WRONG_FORM" = some (.int (-2) t)
  g_NOT_THERE : ∃ t, mg "NOT_THERE" = some (.int (-4) t)
  g_MORE_THAN_THERE_IS : ∃ t, mg "MORE_THAN_THERE_IS" = some (.int (-7) t)
  g_AS_MANY_AS_MAY_BE : ∃ t, mg "AS_MANY_AS_MAY_BE" = some (.int (-8) t)
  g_NO_PRICE : ∃ t, mg "NO_PRICE" = some (.int (-9) t)
  cl_Deal : Cls K A.cDeal
  na_Deal_holder : NoAttr K A.cDeal "holder"
  na_Deal_kind : NoAttr K A.cDeal "kind"
  na_Deal_amount : NoAttr K A.cDeal "amount"
  cl_Outcome : Cls K A.cOut
  na_Outcome_money : NoAttr K A.cOut "money"
  na_Outcome_units : NoAttr K A.cOut "units"
  cl_DayResult : Cls K A.cRes
  na_DayResult_fee : NoAttr K A.cRes "fee"
  na_DayResult_outcomes : NoAttr K A.cRes "outcomes"
  cl_Book : Cls K A.cBook
  na_Book_cash : NoAttr K A.cBook "cash"
  na_Book_units : NoAttr K A.cBook "units"
  cl_Terms : Cls K A.cTerms
  na_Terms_first_cash : NoAttr K A.cTerms "first_cash"
  na_Terms_rate : NoAttr K A.cTerms "rate"
  na_Terms_limit : NoAttr K A.cTerms "limit"
  na_Terms_quantities : NoAttr K A.cTerms "quantities"
  na_Terms_first_units : NoAttr K A.cTerms "first_units"
  cl_Reckoning : Cls K A.cRec
  na_Reckoning_value : NoAttr K A.cRec "value"
  na_Reckoning_units : NoAttr K A.cRec "units"
  na_Reckoning_fee : NoAttr K A.cRec "fee"
  cl_ClosedDay : Cls K A.cDay
  na_ClosedDay_quotes : NoAttr K A.cDay "quotes"
  na_ClosedDay_deals : NoAttr K A.cDay "deals"
  na_ClosedDay_reckoning : NoAttr K A.cDay "reckoning"
  na_ClosedDay_published : NoAttr K A.cDay "published"
  na_ClosedDay_standing : NoAttr K A.cDay "standing"
  cl_RightDay : Cls K A.cRight
  na_RightDay_reckoning : NoAttr K A.cRight "reckoning"
  na_RightDay_wrong : NoAttr K A.cRight "wrong"
  na_RightDay_result : NoAttr K A.cRight "result"
  cl_PutRight : Cls K A.cPut
  na_PutRight_wrong_days : NoAttr K A.cPut "wrong_days"
  na_PutRight_owed : NoAttr K A.cPut "owed"
  na_PutRight_fees : NoAttr K A.cPut "fees"
  cl_Fund : Cls K A.cFund
  na_Fund_terms : NoAttr K A.cFund "terms"
  na_Fund_quotes : NoAttr K A.cFund "quotes"
  na_Fund_deals : NoAttr K A.cFund "deals"
  na_Fund_days : NoAttr K A.cFund "days"
  na_Fund_corrections : NoAttr K A.cFund "corrections"
  na_Fund_balances : NoAttr K A.cFund "balances"
  cl_CallReader : Cls K A.cRead
  na_CallReader_calls : NoAttr K A.cRead "calls"
  na_CallReader_place : NoAttr K A.cRead "place"
  f_Deal : FunI K mg "Deal" A.cDeal "Deal.__init__" s_Deal_init
  f_Outcome : FunI K mg "Outcome" A.cOut "Outcome.__init__" s_Outcome_init
  f_DayResult : FunI K mg "DayResult" A.cRes "DayResult.__init__" s_DayResult_init
  f_Book : FunI K mg "Book" A.cBook "Book.__init__" s_Book_init
  f_Book_units_of : FunM K A.cBook "units_of" "Book.units_of" s_Book_units_of
  f_Book_units_in_all : FunM K A.cBook "units_in_all" "Book.units_in_all" s_Book_units_in_all
  f_Book_go_past : FunM K A.cBook "go_past" "Book.go_past" s_Book_go_past
  f_Terms : FunI K mg "Terms" A.cTerms "Terms.__init__" s_Terms_init
  f_Reckoning : FunI K mg "Reckoning" A.cRec "Reckoning.__init__" s_Reckoning_init
  f_Reckoning_has_price : FunM K A.cRec "has_price" "Reckoning.has_price" s_Reckoning_has_price
  f_first_book : FunG K mg "first_book" s_first_book
  f_worth_of_things : FunG K mg "worth_of_things" s_worth_of_things
  f_reckon : FunG K mg "reckon" s_reckon
  f_outcome_at : FunG K mg "outcome_at" s_outcome_at
  f_result_at : FunG K mg "result_at" s_result_at
  f_ClosedDay : FunI K mg "ClosedDay" A.cDay "ClosedDay.__init__" s_ClosedDay_init
  f_RightDay : FunI K mg "RightDay" A.cRight "RightDay.__init__" s_RightDay_init
  f_book_behind : FunG K mg "book_behind" s_book_behind
  f_right_quotes : FunG K mg "right_quotes" s_right_quotes
  f_is_done_again : FunG K mg "is_done_again" s_is_done_again
  f_right_day : FunG K mg "right_day" s_right_day
  f_right_history : FunG K mg "right_history" s_right_history
  f_numbers_of_wrong_days : FunG K mg "numbers_of_wrong_days" s_numbers_of_wrong_days
  f_add_owed : FunG K mg "add_owed" s_add_owed
  f_owed_to_holders : FunG K mg "owed_to_holders" s_owed_to_holders
  f_PutRight : FunI K mg "PutRight" A.cPut "PutRight.__init__" s_PutRight_init
  f_Fund : FunI K mg "Fund" A.cFund "Fund.__init__" s_Fund_init
  f_Fund_begin_anew : FunM K A.cFund "begin_anew" "Fund.begin_anew" s_Fund_begin_anew
  f_Fund_standing_book : FunM K A.cFund "standing_book" "Fund.standing_book" s_Fund_standing_book
  f_Fund_history : FunM K A.cFund "history" "Fund.history" s_Fund_history
  f_Fund_right_book : FunM K A.cFund "right_book" "Fund.right_book" s_Fund_right_book
  f_Fund_owed_to_each : FunM K A.cFund "owed_to_each" "Fund.owed_to_each" s_Fund_owed_to_each
  f_Fund_asked_back : FunM K A.cFund "asked_back" "Fund.asked_back" s_Fund_asked_back
  f_Fund_units_left : FunM K A.cFund "units_left" "Fund.units_left" s_Fund_units_left
  f_Fund_reckon_today : FunM K A.cFund "reckon_today" "Fund.reckon_today" s_Fund_reckon_today
  f_Fund_close_today : FunM K A.cFund "close_today" "Fund.close_today" s_Fund_close_today
  f_Fund_put_right : FunM K A.cFund "put_right" "Fund.put_right" s_Fund_put_right
  f_new_fund : FunG K mg "new_fund" s_new_fund
  f_is_row : FunG K mg "is_row" s_is_row
  f_is_thing : FunG K mg "is_thing" s_is_thing
  f_is_holder : FunG K mg "is_holder" s_is_holder
  f_is_quote : FunG K mg "is_quote" s_is_quote
  f_day_refusal : FunG K mg "day_refusal" s_day_refusal
  f_answer_begin : FunG K mg "answer_begin" s_answer_begin
  f_answer_quote : FunG K mg "answer_quote" s_answer_quote
  f_answer_order : FunG K mg "answer_order" s_answer_order
  f_answer_close : FunG K mg "answer_close" s_answer_close
  f_answer_fix : FunG K mg "answer_fix" s_answer_fix
  f_answer_putright : FunG K mg "answer_putright" s_answer_putright
  f_answer_day : FunG K mg "answer_day" s_answer_day
  f_answer_right : FunG K mg "answer_right" s_answer_right
  f_answer_outcome : FunG K mg "answer_outcome" s_answer_outcome
  f_answer_holder : FunG K mg "answer_holder" s_answer_holder
  f_book_answer : FunG K mg "book_answer" s_book_answer
  f_answer_book : FunG K mg "answer_book" s_answer_book
  f_answer_rightbook : FunG K mg "answer_rightbook" s_answer_rightbook
  f_answer_owed : FunG K mg "answer_owed" s_answer_owed
  f_answer_wrongs : FunG K mg "answer_wrongs" s_answer_wrongs
  f_answer_counts : FunG K mg "answer_counts" s_answer_counts
  f_CallReader : FunI K mg "CallReader" A.cRead "CallReader.__init__" s_CallReader_init
  f_CallReader_at_end : FunM K A.cRead "at_end" "CallReader.at_end" s_CallReader_at_end
  f_CallReader_take_number : FunM K A.cRead "take_number" "CallReader.take_number" s_CallReader_take_number
  f_CallReader_take_several : FunM K A.cRead "take_several" "CallReader.take_several" s_CallReader_take_several
  f_CallReader_take_row : FunM K A.cRead "take_row" "CallReader.take_row" s_CallReader_take_row
  f_answers : FunG K mg "answers" s_answers
end My
set_option Elab.async false
set_option linter.all false
set_option maxRecDepth 100000
set_option maxHeartbeats 2000000
namespace My
open PySem PySem.Spec PyProof.Rows L2
section
variable {P : Program} {w : World} {K : PySem.W.Frag} {mg : Str → Option Value} {base : Heap}
theorem calF {x : Str} {st : Stmt} {N ps : List Str} {k : Nat} {sp : Sp} (F : FunG K mg x st) (S : FnScope N ps (defScope st))
    (hb : ∀ (kV doc pm : Value) (an : Option Addr) (cdv ct : Value) (us : List Value), us.length = ps.length → bindArgs (PySem.W.fnOf x x (defArgs st) (defBody st) (defScope st) .none kV doc pm an cdv ct) ⟨us, []⟩ = pure (ps.zip us))
    (len : ∀ vs H Q E, sp vs H Q E → vs.length = ps.length)
    (hbody : ∀ (f : Addr) (cdv : Value) (A : Around) (outer : List Env) (s : Shared) (H : Hp) (vs : List V) (Q : VK) (E : XK), Room k (A.deeper (envOfC x (defScope st) s.heap.objs.size f cdv)) → sp vs H Q E →
      ∃ t, PSs (cxOf CX0 P w K mg base N x (defScope st) f cdv A outer s H E).nox (defBody st) t ∧ t { nx := fun _ H' => Q .non H', rt := Q } (start N vs) H) : CalF P w K mg base (k + 1) x ps sp := by
  obtain ⟨f, fd, F, hm⟩ := F
  exact ⟨f, fd, F.ok S len (hbody f), hm, F.kp, F.binds hb⟩
theorem calM {C : Addr} {m qual : Str} {st : Stmt} {N ps : List Str} {k : Nat} {sp : Sp} (F : FunM K C m qual st) (cl : Cls K C) (S : FnScope N ps (defScope st))
    (hb : ∀ (kV doc pm : Value) (an : Option Addr) (cdv ct : Value) (us : List Value), us.length = ps.length → bindArgs (PySem.W.fnOf m qual (defArgs st) (defBody st) (defScope st) .none kV doc pm an cdv ct) ⟨us, []⟩ = pure (ps.zip us))
    (len : ∀ vs H Q E, sp vs H Q E → vs.length = ps.length)
    (hbody : ∀ (f : Addr) (cdv : Value) (A : Around) (outer : List Env) (s : Shared) (H : Hp) (vs : List V) (Q : VK) (E : XK), Room k (A.deeper (envOfC qual (defScope st) s.heap.objs.size f cdv)) → sp vs H Q E →
      ∃ t, PSs (cxOf CX0 P w K mg base N qual (defScope st) f cdv A outer s H E).nox (defBody st) t ∧ t { nx := fun _ H' => Q .non H', rt := Q } (start N vs) H) : CalM P w K mg base (k + 1) C m ps sp := by
  obtain ⟨f, fd, F, hm⟩ := F
  exact ⟨⟨f, fd, F.ok S len (hbody f), hm, F.binds hb⟩, cl⟩
theorem calC {x : Str} {C : Addr} {qual : Str} {st : Stmt} {N ps : List Str} {k : Nat} {sp : Sp} (F : FunI K mg x C qual st) (S : FnScope N ps (defScope st))
    (hb : ∀ (kV doc pm : Value) (an : Option Addr) (cdv ct : Value) (us : List Value), us.length = ps.length → bindArgs (PySem.W.fnOf "__init__" qual (defArgs st) (defBody st) (defScope st) .none kV doc pm an cdv ct) ⟨us, []⟩ = pure (ps.zip us))
    (len : ∀ vs H Q E, sp vs H Q E → vs.length = ps.length)
    (hbody : ∀ (f : Addr) (cdv : Value) (A : Around) (outer : List Env) (s : Shared) (H : Hp) (vs : List V) (Q : VK) (E : XK), Room k (A.deeper (envOfC qual (defScope st) s.heap.objs.size f cdv)) → sp vs H Q E →
      ∃ t, PSs (cxOf CX0 P w K mg base N qual (defScope st) f cdv A outer s H E).nox (defBody st) t ∧ t { nx := fun _ H' => Q .non H', rt := Q } (start N vs) H) : CalC P w K mg base (k + 1) x C ps sp := by
  obtain ⟨f, fd, F, M, hm⟩ := F
  exact ⟨f, fd, F.ok S len (hbody f), hm, M, F.binds hb⟩
end
def spRec (C : Addr) (n : Nat) (fs : List V → Fs) : Sp := fun vs H Q _ => ∃ x dx xs, vs = .ref x :: xs ∧ xs.length = n ∧ H x = some (.ins C dx []) ∧ Q .non (upd H x (.ins C dx (fs xs)))
def fs1 (f : V → Fs) : List V → Fs
  | [a] => f a
  | _ => []
def fs2 (f : V → V → Fs) : List V → Fs
  | [a, b] => f a b
  | _ => []
def fs3 (f : V → V → V → Fs) : List V → Fs
  | [a, b, c] => f a b c
  | _ => []
def fs5 (f : V → V → V → V → V → Fs) : List V → Fs
  | [a, b, c, d, e] => f a b c d e
  | _ => []
def tNew (C : Addr) (n : Nat) (fs : List V → Fs) (t : TA) : TE := fun σ H Q => t σ H fun vs H1 => vs.length = n ∧ ∀ x dx, H1 x = Option.none → H1 dx = Option.none → dx ≠ x → Q (.ref x) (upd (upd H1 dx (.own x)) x (.ins C dx (fs vs)))
section
variable {X : Cx} {k n : Nat} {x : Str} {C : Addr} {ps : List Str} {fs : List V → Fs} {p pos : Pos} {e : Expr} {es : List Expr} {t : TA}
theorem pe_rec (F : CalC X.prog X.w X.K X.mg X.base k x C ps (spRec C n fs)) (hr : Room (k + 1) X.A) (hg : Gl X x) (ha : PA X (e :: es) t) (hdb : (x == ("__debug__" : Str)) = false := by decide)
    (he : starEach (e :: es) X.env = (false, eval e X.env) :: starEach es X.env := by rfl) (hpl : (backTo pos (starEach es X.env)).any (·.1) = false := by rfl) :
    PE X (.Call (.Name x p) (e :: es) [] pos) (tNew C n fs t) := by
  obtain ⟨f, fd, G, hm, M, hb⟩ := F.ex
  intro pins s σ H Q I h
  refine wpAny_Call_Name_kw (ld_glob I hg hm ?_ hdb)
  refine PySem.W.callWith_K (h₀ := X.base) I.ok.mod.kin M.kp (thn (ha pos pins s σ H _ I h) fun us s1 ⟨vs, H1, I1, r, q⟩ => ⟨I1.kIn, ?_⟩) he hpl
  refine run_make (dvs := []) (ds := []) (E := E0) M G hr hb .nil pass0 I1 r fun x dx hx hd hn => ?_
  rw [List.append_nil]
  refine ⟨x, dx, vs, rfl, q.1, upd_same, rfl, ?_⟩
  rw [upd_upd]
  exact q.2 x dx hx hd hn
theorem pe_gi {n : Int} (h : ∃ t, X.mg x = some (.int n t)) (hg : Gl X x) (hd : (x == ("__debug__" : Str)) = false := by decide) : PE X (.Name x p) (tC (.int n)) := by
  obtain ⟨t, h⟩ := h
  exact pe_glob hg h ⟨t, rfl⟩ hd
end
end My
set_option Elab.async false
set_option linter.all false
set_option maxRecDepth 100000
set_option maxHeartbeats 2000000
namespace My
open PySem PySem.Spec PyProof.Rows L2
open Vbfuam (State Deal Out Day Fix Book Right)
section
variable {P : Program} {w : World} {K : PySem.W.Frag} {mg : Str → Option Value} {base : Heap} {A : Ad}
theorem ok_Deal (T : Txt K mg A) : CalC P w K mg base 1 "Deal" A.cDeal ["self", "holder", "kind", "amount"] (spRec A.cDeal 3 (fs3 fDeal)) := by
  refine calC T.f_Deal sc_Deal_init (fun _ _ _ _ _ _ us hl => match us, hl with | [_, _, _, _], _ => rfl) (fun vs H Q E h => ?_) (fun f cdv A1 outer s H vs Q E hr h => ?_)
  · obtain ⟨x, dx, xs, rfl, hl, _⟩ := h
    exact congrArg (· + 1) hl
  · obtain ⟨x, dx, xs, rfl, hl, hx, k⟩ := h
    match xs, hl, k with
    | [a, b, c], _, k =>
      refine ⟨_, (pss_cons (ps_fld (pv 0) (pv 1) rfl) (pss_cons (ps_fld (pv 0) (pv 2) rfl) (pss_one (ps_fld (pv 0) (pv 3) rfl)))), ?_⟩
      refine ⟨_, rfl, _, rfl, x, A.cDeal, dx, _, rfl, hx, T.cl_Deal, T.na_Deal_holder, (by show 0 < 1000; decide), ?_⟩
      refine ⟨_, rfl, _, rfl, x, A.cDeal, dx, _, rfl, upd_same, T.cl_Deal, T.na_Deal_kind, (by show 1 < 1000; decide), ?_⟩
      refine ⟨_, rfl, _, rfl, x, A.cDeal, dx, _, rfl, upd_same, T.cl_Deal, T.na_Deal_amount, (by show 2 < 1000; decide), ?_⟩
      show Q .non _
      rw [upd_upd, upd_upd]
      exact k
theorem ok_Outcome (T : Txt K mg A) : CalC P w K mg base 1 "Outcome" A.cOut ["self", "money", "units"] (spRec A.cOut 2 (fs2 fOut)) := by
  refine calC T.f_Outcome sc_Outcome_init (fun _ _ _ _ _ _ us hl => match us, hl with | [_, _, _], _ => rfl) (fun vs H Q E h => ?_) (fun f cdv A1 outer s H vs Q E hr h => ?_)
  · obtain ⟨x, dx, xs, rfl, hl, _⟩ := h
    exact congrArg (· + 1) hl
  · obtain ⟨x, dx, xs, rfl, hl, hx, k⟩ := h
    match xs, hl, k with
    | [a, b], _, k =>
      refine ⟨_, (pss_cons (ps_fld (pv 0) (pv 1) rfl) (pss_one (ps_fld (pv 0) (pv 2) rfl))), ?_⟩
      refine ⟨_, rfl, _, rfl, x, A.cOut, dx, _, rfl, hx, T.cl_Outcome, T.na_Outcome_money, (by show 0 < 1000; decide), ?_⟩
      refine ⟨_, rfl, _, rfl, x, A.cOut, dx, _, rfl, upd_same, T.cl_Outcome, T.na_Outcome_units, (by show 1 < 1000; decide), ?_⟩
      show Q .non _
      rw [upd_upd]
      exact k
theorem ok_DayResult (T : Txt K mg A) : CalC P w K mg base 1 "DayResult" A.cRes ["self", "fee", "outcomes"] (spRec A.cRes 2 (fs2 fRes)) := by
  refine calC T.f_DayResult sc_DayResult_init (fun _ _ _ _ _ _ us hl => match us, hl with | [_, _, _], _ => rfl) (fun vs H Q E h => ?_) (fun f cdv A1 outer s H vs Q E hr h => ?_)
  · obtain ⟨x, dx, xs, rfl, hl, _⟩ := h
    exact congrArg (· + 1) hl
  · obtain ⟨x, dx, xs, rfl, hl, hx, k⟩ := h
    match xs, hl, k with
    | [a, b], _, k =>
      refine ⟨_, (pss_cons (ps_fld (pv 0) (pv 1) rfl) (pss_one (ps_fld (pv 0) (pv 2) rfl))), ?_⟩
      refine ⟨_, rfl, _, rfl, x, A.cRes, dx, _, rfl, hx, T.cl_DayResult, T.na_DayResult_fee, (by show 0 < 1000; decide), ?_⟩
      refine ⟨_, rfl, _, rfl, x, A.cRes, dx, _, rfl, upd_same, T.cl_DayResult, T.na_DayResult_outcomes, (by show 1 < 1000; decide), ?_⟩
      show Q .non _
      rw [upd_upd]
      exact k
theorem ok_Terms (T : Txt K mg A) : CalC P w K mg base 1 "Terms" A.cTerms ["self", "first_cash", "rate", "limit", "quantities", "first_units"] (spRec A.cTerms 5 (fs5 fTerms)) := by
  refine calC T.f_Terms sc_Terms_init (fun _ _ _ _ _ _ us hl => match us, hl with | [_, _, _, _, _, _], _ => rfl) (fun vs H Q E h => ?_) (fun f cdv A1 outer s H vs Q E hr h => ?_)
  · obtain ⟨x, dx, xs, rfl, hl, _⟩ := h
    exact congrArg (· + 1) hl
  · obtain ⟨x, dx, xs, rfl, hl, hx, k⟩ := h
    match xs, hl, k with
    | [a, b, c, d, e], _, k =>
      refine ⟨_, (pss_cons (ps_fld (pv 0) (pv 1) rfl) (pss_cons (ps_fld (pv 0) (pv 2) rfl) (pss_cons (ps_fld (pv 0) (pv 3) rfl) (pss_cons (ps_fld (pv 0) (pv 4) rfl) (pss_one (ps_fld (pv 0) (pv 5) rfl)))))), ?_⟩
      refine ⟨_, rfl, _, rfl, x, A.cTerms, dx, _, rfl, hx, T.cl_Terms, T.na_Terms_first_cash, (by show 0 < 1000; decide), ?_⟩
      refine ⟨_, rfl, _, rfl, x, A.cTerms, dx, _, rfl, upd_same, T.cl_Terms, T.na_Terms_rate, (by show 1 < 1000; decide), ?_⟩
      refine ⟨_, rfl, _, rfl, x, A.cTerms, dx, _, rfl, upd_same, T.cl_Terms, T.na_Terms_limit, (by show 2 < 1000; decide), ?_⟩
      refine ⟨_, rfl, _, rfl, x, A.cTerms, dx, _, rfl, upd_same, T.cl_Terms, T.na_Terms_quantities, (by show 3 < 1000; decide), ?_⟩
      refine ⟨_, rfl, _, rfl, x, A.cTerms, dx, _, rfl, upd_same, T.cl_Terms, T.na_Terms_first_units, (by show 4 < 1000; decide), ?_⟩
      show Q .non _
      rw [upd_upd, upd_upd, upd_upd, upd_upd]
      exact k
theorem ok_Reckoning (T : Txt K mg A) : CalC P w K mg base 1 "Reckoning" A.cRec ["self", "value", "units", "fee"] (spRec A.cRec 3 (fs3 fRec)) := by
  refine calC T.f_Reckoning sc_Reckoning_init (fun _ _ _ _ _ _ us hl => match us, hl with | [_, _, _, _], _ => rfl) (fun vs H Q E h => ?_) (fun f cdv A1 outer s H vs Q E hr h => ?_)
  · obtain ⟨x, dx, xs, rfl, hl, _⟩ := h
    exact congrArg (· + 1) hl
  · obtain ⟨x, dx, xs, rfl, hl, hx, k⟩ := h
    match xs, hl, k with
    | [a, b, c], _, k =>
      refine ⟨_, (pss_cons (ps_fld (pv 0) (pv 1) rfl) (pss_cons (ps_fld (pv 0) (pv 2) rfl) (pss_one (ps_fld (pv 0) (pv 3) rfl)))), ?_⟩
      refine ⟨_, rfl, _, rfl, x, A.cRec, dx, _, rfl, hx, T.cl_Reckoning, T.na_Reckoning_value, (by show 0 < 1000; decide), ?_⟩
      refine ⟨_, rfl, _, rfl, x, A.cRec, dx, _, rfl, upd_same, T.cl_Reckoning, T.na_Reckoning_units, (by show 1 < 1000; decide), ?_⟩
      refine ⟨_, rfl, _, rfl, x, A.cRec, dx, _, rfl, upd_same, T.cl_Reckoning, T.na_Reckoning_fee, (by show 2 < 1000; decide), ?_⟩
      show Q .non _
      rw [upd_upd, upd_upd]
      exact k
theorem ok_RightDay (T : Txt K mg A) : CalC P w K mg base 1 "RightDay" A.cRight ["self", "reckoning", "wrong", "result"] (spRec A.cRight 3 (fs3 fRight)) := by
  refine calC T.f_RightDay sc_RightDay_init (fun _ _ _ _ _ _ us hl => match us, hl with | [_, _, _, _], _ => rfl) (fun vs H Q E h => ?_) (fun f cdv A1 outer s H vs Q E hr h => ?_)
  · obtain ⟨x, dx, xs, rfl, hl, _⟩ := h
    exact congrArg (· + 1) hl
  · obtain ⟨x, dx, xs, rfl, hl, hx, k⟩ := h
    match xs, hl, k with
    | [a, b, c], _, k =>
      refine ⟨_, (pss_cons (ps_fld (pv 0) (pv 1) rfl) (pss_cons (ps_fld (pv 0) (pv 2) rfl) (pss_one (ps_fld (pv 0) (pv 3) rfl)))), ?_⟩
      refine ⟨_, rfl, _, rfl, x, A.cRight, dx, _, rfl, hx, T.cl_RightDay, T.na_RightDay_reckoning, (by show 0 < 1000; decide), ?_⟩
      refine ⟨_, rfl, _, rfl, x, A.cRight, dx, _, rfl, upd_same, T.cl_RightDay, T.na_RightDay_wrong, (by show 1 < 1000; decide), ?_⟩
      refine ⟨_, rfl, _, rfl, x, A.cRight, dx, _, rfl, upd_same, T.cl_RightDay, T.na_RightDay_result, (by show 2 < 1000; decide), ?_⟩
      show Q .non _
      rw [upd_upd, upd_upd]
      exact k
theorem ok_PutRight (T : Txt K mg A) : CalC P w K mg base 1 "PutRight" A.cPut ["self", "wrong_days", "owed", "fees"] (spRec A.cPut 3 (fs3 fPut)) := by
  refine calC T.f_PutRight sc_PutRight_init (fun _ _ _ _ _ _ us hl => match us, hl with | [_, _, _, _], _ => rfl) (fun vs H Q E h => ?_) (fun f cdv A1 outer s H vs Q E hr h => ?_)
  · obtain ⟨x, dx, xs, rfl, hl, _⟩ := h
    exact congrArg (· + 1) hl
  · obtain ⟨x, dx, xs, rfl, hl, hx, k⟩ := h
    match xs, hl, k with
    | [a, b, c], _, k =>
      refine ⟨_, (pss_cons (ps_fld (pv 0) (pv 1) rfl) (pss_cons (ps_fld (pv 0) (pv 2) rfl) (pss_one (ps_fld (pv 0) (pv 3) rfl)))), ?_⟩
      refine ⟨_, rfl, _, rfl, x, A.cPut, dx, _, rfl, hx, T.cl_PutRight, T.na_PutRight_wrong_days, (by show 0 < 1000; decide), ?_⟩
      refine ⟨_, rfl, _, rfl, x, A.cPut, dx, _, rfl, upd_same, T.cl_PutRight, T.na_PutRight_owed, (by show 1 < 1000; decide), ?_⟩
      refine ⟨_, rfl, _, rfl, x, A.cPut, dx, _, rfl, upd_same, T.cl_PutRight, T.na_PutRight_fees, (by show 2 < 1000; decide), ?_⟩
      show Q .non _
      rw [upd_upd, upd_upd]
      exact k
theorem upd_comm {H : Hp} {a b : Addr} {o u : HO} (h : a ≠ b) : upd (upd H a o) b u = upd (upd H b u) a o := by
  funext c
  unfold upd
  by_cases e1 : c = b
  · subst e1
    rw [if_pos rfl, if_neg (fun q => h q.symm), if_pos rfl]
  · rw [if_neg e1]
    by_cases e2 : c = a
    · rw [if_pos e2, if_pos e2]
    · rw [if_neg e2, if_neg e2, if_neg e1]
def spBookI (A : Ad) : Sp := fun vs H Q _ => ∃ x dx c u us, vs = [.ref x, c, .ref u] ∧ H x = some (.ins A.cBook dx []) ∧ Ints H u us ∧
  ∀ l, H l = Option.none → Q .non (upd (upd H l (.lst (us.map V.int))) x (.ins A.cBook dx (fBook c (.ref l))))
theorem ok_Book (T : Txt K mg A) : CalC P w K mg base 1 "Book" A.cBook ["self", "cash", "units"] (spBookI A) := by
  refine calC T.f_Book sc_Book_init (fun _ _ _ _ _ _ us hl => match us, hl with | [_, _, _], _ => rfl) (fun vs H Q E h => ?_) (fun f cdv A1 outer s H vs Q E hr h => ?_)
  · obtain ⟨x, dx, c, u, us, rfl, _⟩ := h
    rfl
  · obtain ⟨x, dx, c, u, us, rfl, hx, hu, k⟩ := h
    refine ⟨_, (pss_cons (ps_fld (pv 0) (pv 1) rfl)
      (pss_one (ps_fld (pv 0) (pe_callTy call_list_of (by rfl) T.b_list PyProof.Rows.boot_list (pa_cons (pv 2) pa_nil)) rfl))), ?_⟩
    have hux : u ≠ x := ne_of hu hx (by intro q; cases q)
    refine ⟨_, rfl, _, rfl, x, A.cBook, dx, _, rfl, hx, T.cl_Book, T.na_Book_cash, (by show 0 < 1000; decide), ?_⟩
    refine ⟨_, rfl, u, us.map V.int, rfl, .inl (SqL.of (by rw [upd_ne hux]; exact hu)), fun l hl => ?_⟩
    have hlx : l ≠ x := fun q => by (rw [q, upd_same] at hl; cases hl)
    refine ⟨_, rfl, x, A.cBook, dx, _, rfl, (by rw [upd_ne (fun q => hlx q.symm)]; exact upd_same), T.cl_Book, T.na_Book_units, (by show 1 < 1000; decide), ?_⟩
    show Q .non _
    rw [upd_comm hlx.symm, upd_upd]
    rw [upd_ne hlx] at hl
    exact k l hl
def spUnitsOf (A : Ad) : Sp := fun vs H Q _ => ∃ b l k h, vs = [.ref b, nV h] ∧ BookAt A H b l k ∧ 1 ≤ h ∧ h ≤ k.units.length ∧ Q (.int (k.units.getD (h - 1) 0)) H
theorem ok_Book_units_of (T : Txt K mg A) : CalM P w K mg base 1 A.cBook "units_of" ["self", "holder"] (spUnitsOf A) := by
  refine calM T.f_Book_units_of T.cl_Book sc_Book_units_of (fun _ _ _ _ _ _ us hl => match us, hl with | [_, _], _ => rfl) (fun vs H Q E h => ?_) (fun f cdv A1 outer s H vs Q E hr h => ?_)
  · obtain ⟨b, l, k, h, rfl, _⟩ := h
    rfl
  · obtain ⟨b, l, k, h, rfl, ⟨⟨dx, hb⟩, hl⟩, h1, h2, q⟩ := h
    refine ⟨_, (pss_one (ps_ret (pe_ix ix_list (pe_fld (pv 0) rfl) (pe_op op_sub (pv 1) pe_int) (fun _ _ => rfl)))), ?_⟩
    refine ⟨_, rfl, b, A.cBook, dx, _, _, rfl, hb, T.cl_Book, T.na_Book_units, rfl, _, rfl, _, _, rfl, rfl, l, _, _, _, rfl, rfl, SqL.of hl, at_of (j := h - 1) (v := .int (k.units.getD (h - 1) 0)) (by omega) ?_, q⟩
    rw [List.getElem?_map, List.getElem?_eq_getElem (show h - 1 < k.units.length by omega)]
    simp [List.getD, show h - 1 < k.units.length by omega]
def spInAll (A : Ad) : Sp := fun vs H Q _ => ∃ b l k, vs = [.ref b] ∧ BookAt A H b l k ∧ Q (.int (Vbfuam.isum k.units)) H
theorem ok_Book_units_in_all (T : Txt K mg A) : CalM P w K mg base 1 A.cBook "units_in_all" ["self"] (spInAll A) := by
  refine calM T.f_Book_units_in_all T.cl_Book sc_Book_units_in_all (fun _ _ _ _ _ _ us hl => match us, hl with | [_], _ => rfl) (fun vs H Q E h => ?_) (fun f cdv A1 outer s H vs Q E hr h => ?_)
  · obtain ⟨b, l, k, rfl, _⟩ := h
    rfl
  · obtain ⟨b, l, k, rfl, ⟨⟨dx, hb⟩, hl⟩, q⟩ := h
    refine ⟨_, (pss_one (ps_ret (pe_callB (cr_sum rfl) (by rfl) T.b_sum PyProof.Rows.boot_sum (pa_cons (pe_fld (pv 0) rfl) pa_nil)))), ?_⟩
    exact ⟨_, rfl, b, A.cBook, dx, _, _, rfl, hb, T.cl_Book, T.na_Book_units, rfl, l, k.units, rfl, SqL.of hl, q⟩
def spPrice (A : Ad) : Sp := fun vs H Q _ => ∃ r v u f, vs = [.ref r] ∧ RecAt A H r v u f ∧ Q (.bl (decide (1 ≤ v) && decide (1 ≤ u))) H
theorem ok_Reckoning_has_price (T : Txt K mg A) : CalM P w K mg base 1 A.cRec "has_price" ["self"] (spPrice A) := by
  refine calM T.f_Reckoning_has_price T.cl_Reckoning sc_Reckoning_has_price (fun _ _ _ _ _ _ us hl => match us, hl with | [_], _ => rfl) (fun vs H Q E h => ?_) (fun f cdv A1 outer s H vs Q E hr h => ?_)
  · obtain ⟨r, v, u, f, rfl, _⟩ := h
    rfl
  · obtain ⟨r, v, u, f, rfl, ⟨dx, hb⟩, q⟩ := h
    refine ⟨_, (pss_one (ps_ret (pe_and (pe_cmpR op_ge (pe_fld (pv 0) rfl) pe_int (nomark _)) (pe_one (pe_cmpR op_ge (pe_fld (pv 0) rfl) pe_int (nomark _)))))), ?_⟩
    refine ⟨_, rfl, r, A.cRec, dx, _, _, rfl, hb, T.cl_Reckoning, T.na_Reckoning_value, rfl, v, 1, rfl, rfl, _, rfl, ?_⟩
    by_cases h1 : 1 ≤ v
    · rw [if_pos (decide_eq_true h1)]
      rw [decide_eq_true h1, Bool.true_and] at q
      exact ⟨_, rfl, r, A.cRec, dx, _, _, rfl, hb, T.cl_Reckoning, T.na_Reckoning_units, rfl, u, 1, rfl, rfl, q⟩
    · rw [if_neg (by rw [decide_eq_false h1]; exact Bool.false_ne_true)]
      rw [decide_eq_false h1, Bool.false_and] at q
      exact q
end
end My
set_option Elab.async false
set_option linter.all false
set_option maxRecDepth 100000
set_option maxHeartbeats 2000000
namespace My
open PySem PySem.Spec PyProof.Rows L2
open Vbfuam (State Deal Out Day Fix Book Right)
theorem ixN_nat {n j : Nat} (h : j < n) : ixN n (j : Int) = some j := by
  unfold ixN
  rw [if_pos (by omega), if_pos (by omega)]
  simp
theorem map_set_int (us : List Int) (j : Nat) (z : Int) : (us.map V.int).set j (.int z) = (us.set j z).map V.int := by
  rw [List.map_set]
theorem getD_some {us : List Int} {j : Nat} (h : j < us.length) : us[j]? = some (us.getD j 0) := by
  rw [List.getElem?_eq_getElem h]
  simp [List.getD, h]
theorem refs_get {as : List Addr} {i : Nat} {x : V} (h : (as.map V.ref)[i]? = some x) : ∃ a, as[i]? = some a ∧ x = .ref a := by
  rw [List.getElem?_map] at h
  cases e : as[i]? with
  | none =>
    rw [e] at h
    cases h
  | some a =>
    rw [e] at h
    exact ⟨a, rfl, (Option.some.inj h).symm⟩
theorem get_refs {as : List Addr} {i : Nat} {a : Addr} (h : as[i]? = some a) : (as.map V.ref)[i]? = some (.ref a) := by
  rw [List.getElem?_map, h]
  rfl
section
variable {P : Program} {w : World} {K : PySem.W.Frag} {mg : Str → Option Value} {base : Heap} {A : Ad}
def spGoPast (A : Ad) : Sp := fun vs H Q _ => ∃ b l dl rs k fee deals outs G, vs = [.ref b, .ref dl, .ref rs] ∧ Same G H ∧ G b = Option.none ∧ G l = Option.none ∧ BookAt A H b l k ∧ DealsAt A G dl deals ∧ ResAt A G rs fee outs ∧
  (∀ d ∈ deals, DealOk d) ∧ k.units.length = 10 ∧ ∀ H', Ex [b, l] G H G H' → BookAt A H' b l (Vbfuam.behind k fee deals outs) → Q .non H'
theorem ok_Book_go_past (T : Txt K mg A) : CalM P w K mg base 1 A.cBook "go_past" ["self", "deals", "result"] (spGoPast A) := by
  refine calM T.f_Book_go_past T.cl_Book sc_Book_go_past (fun _ _ _ _ _ _ us hl => match us, hl with | [_, _, _], _ => rfl) (fun vs H Q E h => ?_) (fun f cdv A1 outer s H vs Q E hr h => ?_)
  · obtain ⟨b, l, dl, rs, k, fee, deals, outs, G, rfl, _⟩ := h
    rfl
  · obtain ⟨b, l, dl, rs, k, fee, deals, outs, G, rfl, sg, gb, gl, ⟨⟨dx, hb⟩, hl⟩, ⟨as, hdl, pd⟩, ⟨ol, ⟨dr, hrs⟩, os, hol, po⟩, dok, hlen, k0⟩ := h
    refine ⟨_, (pss_cons (ps_fldaug (pv 0) (pe_fld (pv 2) rfl) in_sub)
      (pss_one (ps_for PassesOwn.never rfl (pi_zip rfl T.b_zip (pa_cons (pv 1) (pa_cons (pe_fld (pv 2) rfl) pa_nil))) (pg_tup rfl (pgs_cons (pg_name (i := 3) sc_Book_go_past.nd rfl (Or.inl rfl)) (pgs_cons (pg_name (i := 4) sc_Book_go_past.nd rfl (Or.inl rfl)) pgs_nil)))
      (pss_cons (ps_fldaug (pv 0) (pe_fld (pv 4) rfl) in_add)
      (pss_one (ps_augS (pe_fld (pv 0) rfl) (pe_op op_sub (pe_fld (pv 3) rfl) pe_int) get_list (pe_fld (pv 4) rfl) ip_add set_list)))))), ?_⟩
    refine ⟨_, rfl, b, A.cBook, dx, _, _, rfl, hb, T.cl_Book, T.na_Book_cash, rfl, _, rfl, rs, A.cRes, dr, _, _, rfl, sg _ _ hrs, T.cl_DayResult, T.na_DayResult_fee, rfl, _, _, rfl, rfl, dx, _, hb, (by show 2 < 1000; decide), ?_⟩
    have e1 : Ex [b, l] G H G (upd H b (.ins A.cBook dx (fBook (.int (k.cash - (fee : Int))) (.ref l)))) := (Ex.put sg gb (some_ne hb)).weak (by simp)
    have hlb : l ≠ b := ne_of hl hb (by intro q; cases q)
    refine ⟨_, rfl, _, rfl, rs, A.cRes, dr, _, _, rfl, e1.gh _ _ hrs, T.cl_DayResult, T.na_DayResult_outcomes, rfl, dl, ol, _, _, rfl, SqL.of (e1.gh _ _ hdl), SqL.of (e1.gh _ _ hol),
      for_it (J := Itz K dl ol) (n := (deals.zip outs).length) (fun i σ H' => ∃ v3 v4, σ = [some (.ref b), some (.ref dl), some (.ref rs), v3, v4] ∧ Ex [b, l] G H G H' ∧
        BookAt A H' b l (((deals.zip outs).take i).foldl bstep { k with cash := k.cash - (fee : Int) })) ⟨Option.none, Option.none, rfl, e1, ⟨dx, upd_same⟩, (upd_ne hlb).trans hl⟩ ?_ ?_ ?_ ?_⟩
    · rintro i σ H' hi ⟨v3, v4, rfl, e, _⟩
      rw [List.length_zip] at hi
      have h1 := pd.len
      have h2 := po.len
      exact ⟨_, _, _, _, SqL.of (e.gh _ _ hdl), SqL.of (e.gh _ _ hol), get_refs (List.getElem?_eq_getElem (show i < as.length by omega)), get_refs (List.getElem?_eq_getElem (show i < os.length by omega))⟩
    · rintro σ H' ⟨v3, v4, rfl, e, _⟩
      have h1 := pd.len
      have h2 := po.len
      refine ⟨_, _, SqL.of (e.gh _ _ hdl), SqL.of (e.gh _ _ hol), ?_⟩
      rw [List.length_zip, List.length_map, List.length_map]
      omega
    · rintro i σ H' x H'' hi ⟨v3, v4, rfl, e, ⟨dx', hb'⟩, hl'⟩ ⟨tp, x', y', rfl, htp, rfl, hx', hy'⟩
      obtain ⟨ad, had, rfl⟩ := refs_get (hx' _ (SqL.of (e.gh _ _ hdl)))
      obtain ⟨ao, hao, rfl⟩ := refs_get (hy' _ (SqL.of (e.gh _ _ hol)))
      obtain ⟨d, hd, dd, hd2⟩ := pd.right had
      obtain ⟨o, ho, dd2, ho2⟩ := po.right hao
      have dk := dok d (List.mem_of_getElem? hd)
      have a1 := dk.h1
      have a2 := dk.h10
      have e2 : Ex [] G H' G (upd H' tp (.tup [.ref ad, .ref ao])) := Ex.new e.gh htp
      have hbt : b ≠ tp := ne_of_none hb' htp
      have hlt : l ≠ tp := ne_of_none hl' htp
      have e3 := e2.gh
      have hz := zip_get hd ho
      have hul : (((deals.zip outs).take i).foldl bstep { k with cash := k.cash - (fee : Int) }).units.length = 10 := by
        rw [bfold_len]
        exact hlen
      have e4 : Ex [b] G (upd H' tp (.tup [.ref ad, .ref ao])) G (upd (upd H' tp (.tup [.ref ad, .ref ao])) b (.ins A.cBook dx' (fBook (.int ((((deals.zip outs).take i).foldl bstep { k with cash := k.cash - (fee : Int) }).cash + o.money)) (.ref l)))) :=
        Ex.put e3 gb (by rw [upd_ne hbt]; exact some_ne hb')
      refine ⟨tp, _, rfl, SqT.of upd_same, rfl, _, _, rfl, _, _, rfl, rfl, ?_⟩
      refine ⟨_, rfl, b, A.cBook, dx', _, _, rfl, (by rw [upd_ne hbt]; exact hb'), T.cl_Book, T.na_Book_cash, rfl, _, rfl, ao, A.cOut, dd2, _, _, rfl, e3 _ _ ho2, T.cl_Outcome, T.na_Outcome_money, rfl, _, _, rfl, rfl, dx', _, (by rw [upd_ne hbt]; exact hb'), (by show 2 < 1000; decide), ?_⟩
      have hl4 : (upd (upd H' tp (.tup [.ref ad, .ref ao])) b (.ins A.cBook dx' (fBook (.int ((((deals.zip outs).take i).foldl bstep { k with cash := k.cash - (fee : Int) }).cash + o.money)) (.ref l)))) l =
          some (.lst ((((deals.zip outs).take i).foldl bstep { k with cash := k.cash - (fee : Int) }).units.map V.int)) := by
        rw [upd_ne hlb, upd_ne hlt]
        exact hl'
      refine ⟨_, rfl, b, A.cBook, dx', _, _, rfl, upd_same, T.cl_Book, T.na_Book_units, rfl, _, rfl, ad, A.cDeal, dd, _, _, rfl, e4.gh _ _ hd2, T.cl_Deal, T.na_Deal_holder, rfl, _, _, rfl, rfl,
        l, _, d.holder - 1, _, rfl, congrArg V.int (show (d.holder : Int) - 1 = ((d.holder - 1 : Nat) : Int) by omega), SqL.of hl4, (by rw [List.getElem?_map, getD_some (by omega)]; rfl),
        _, rfl, ao, A.cOut, dd2, _, _, rfl, e4.gh _ _ ho2, T.cl_Outcome, T.na_Outcome_units, rfl, _, _, rfl, rfl, l, _, _, d.holder - 1, rfl, rfl, hl4, (by rw [List.length_map, show (d.holder : Int) - 1 = ((d.holder - 1 : Nat) : Int) by omega]; exact ixN_nat (by omega)), ?_⟩
      refine ⟨_, _, rfl, ((e.trans e2).trans (e4.trans (Ex.put e4.gh gl (some_ne hl4)))).weak (by simp), ?_⟩
      rw [foldl_take _ _ hz]
      refine ⟨⟨dx', by rw [upd_ne hlb.symm]; exact upd_same⟩, ?_⟩
      show upd _ _ _ _ = _
      rw [upd_same, map_set_int]
      rfl
    · rintro σ H' ⟨v3, v4, rfl, e, hB⟩
      rw [List.take_length] at hB
      exact k0 H' e hB
end
end My
set_option Elab.async false
set_option linter.all false
set_option maxRecDepth 100000
set_option maxHeartbeats 2000000
namespace My
open PySem PySem.Spec PyProof.Rows L2
open Vbfuam (State Deal Out Day Fix Book Right)
theorem Ex.adopt {M : List Addr} {G H G' H' : Hp} {D : Addr} {o : HO} (e : Ex M G H G' H') (sg : Same G H) (hD : H D = Option.none) (h' : H' D = some o) (g : G' D = Option.none) : Ex M G H (upd G' D o) H' where
  gg := same_upd e.gg (sg.free hD)
  gh := fun b u q => by
    by_cases z : b = D
    · subst z
      rw [upd_same] at q
      cases q
      exact h'
    · rw [upd_ne z] at q
      exact e.gh b u q
  hh := e.hh
  dm := e.dm
  no := fun a h1 h2 h3 => by
    rw [upd_ne (fun z => h1 (by rw [z]; exact hD))]
    exact e.no a h1 h2 h3
theorem nats_get {ns : List Nat} {i : Nat} {x : V} (h : (ns.map nV)[i]? = some x) : ∃ n, ns[i]? = some n ∧ x = nV n := by
  rw [List.getElem?_map] at h
  cases e : ns[i]? with
  | none =>
    rw [e] at h
    cases h
  | some a =>
    rw [e] at h
    exact ⟨a, rfl, (Option.some.inj h).symm⟩
section
variable {P : Program} {w : World} {K : PySem.W.Frag} {mg : Str → Option Value} {base : Heap} {A : Ad}
def spFirst (A : Ad) : Sp := fun vs H Q _ => ∃ t s G, vs = [.ref t] ∧ Same G H ∧ TermsAt A H t s ∧ ∀ b l H', H b = Option.none → H l = Option.none → Ex [] G H G H' → BookAt A H' b l (Vbfuam.firstBook s) → Q (.ref b) H'
theorem ok_first_book (T : Txt K mg A) : CalF P w K mg base 3 "first_book" ["terms"] (spFirst A) := by
  refine calF T.f_first_book sc_first_book (fun _ _ _ _ _ _ us hl => match us, hl with | [_], _ => rfl) (fun vs H Q E h => ?_) (fun f cdv A1 outer s0 H vs Q E hr h => ?_)
  · obtain ⟨t, s, G, rfl, _⟩ := h
    rfl
  · obtain ⟨t, s, G, rfl, sg, ⟨q, u, ⟨dt, ht⟩, hq, hu⟩, k⟩ := h
    refine ⟨_, (pss_one (ps_ret (pe_mk (ok_Book T) (hr.mono (by decide)) rfl (pa_cons (pe_fld (pv 0) rfl) (pa_cons (pe_fld (pv 0) rfl) pa_nil))))), ?_⟩
    refine ⟨_, rfl, t, A.cTerms, dt, _, _, rfl, ht, T.cl_Terms, T.na_Terms_first_cash, rfl, _, rfl, t, A.cTerms, dt, _, _, rfl, ht, T.cl_Terms, T.na_Terms_first_units, rfl, fun x dx hx hd hn => ?_⟩
    have e1 : Ex [] G H G (upd (upd H dx (.own x)) x (.ins A.cBook dx [])) := Ex.madeM sg hx hd hn
    refine ⟨x, dx, _, u, s.seed, rfl, upd_same, e1.keep0 hu, fun l hl => ⟨rfl, ?_⟩⟩
    have e2 : Ex [] G (upd (upd H dx (.own x)) x (.ins A.cBook dx [])) G (upd (upd (upd H dx (.own x)) x (.ins A.cBook dx [])) l (.lst (s.seed.map V.int))) := Ex.new e1.gh hl
    have hxl : x ≠ l := fun z => by (rw [← z, upd_same] at hl; cases hl)
    have e3 := Ex.put (p := x) (o := .ins A.cBook dx (fBook (.int s.cash) (.ref l))) e2.gh (sg.free hx) (by rw [upd_ne hxl, upd_same]; exact fun z => nomatch z)
    refine k x l _ hx (e1.freeH hl) (((e1.trans0 e2).trans e3).drop (by simp [hx])) ⟨⟨dx, upd_same⟩, ?_⟩
    show upd _ _ _ _ = _
    rw [upd_ne hxl.symm, upd_same]
    rfl
def spWorth (A : Ad) : Sp := fun vs H Q _ => ∃ q p qs ps G, vs = [.ref q, .ref p] ∧ Same G H ∧ Nats H q qs ∧ Nats H p ps ∧ qs.length = 6 ∧ (∀ n ∈ qs, n ≤ 1000000) ∧ ∀ H', Ex [] G H G H' → Q (.int ((Vbfuam.things qs ps : Nat) : Int)) H'
theorem ok_worth_of_things (T : Txt K mg A) : CalF P w K mg base 1 "worth_of_things" ["quantities", "quotes"] (spWorth A) := by
  refine calF T.f_worth_of_things sc_worth_of_things (fun _ _ _ _ _ _ us hl => match us, hl with | [_, _], _ => rfl) (fun vs H Q E h => ?_) (fun f cdv A1 outer s0 H vs Q E hr h => ?_)
  · obtain ⟨q, p, qs, ps, G, rfl, _⟩ := h
    rfl
  · obtain ⟨q, p, qs, ps, G, rfl, sg, hq, hp, hlen, hsm, k⟩ := h
    refine ⟨_, (pss_cons (ps_set (i := 2) sc_worth_of_things.nd rfl (Or.inl rfl) (pe_callB (cr_sum rfl) (by rfl) T.b_sum PyProof.Rows.boot_sum (pa_cons (pe_lc (g := gTup K 2 (gCons (gName 3) (gCons (gName 4) gNil))) rfl sc_worth_of_things.nd (pi_zip rfl T.b_zip (pa_cons (pv 0) (pa_cons (pv 1) pa_nil))) (blkOk_by (own := [("quantity", 3), ("quote", 4)]) rfl) (fun _ _ _ _ _ => (pg_tup rfl (pgs_cons (pg_name (i := 3) sc_worth_of_things.nd rfl (Or.inl rfl) (Or.inr rfl)) (pgs_cons (pg_name (i := 4) sc_worth_of_things.nd rfl (Or.inl rfl) (Or.inr rfl)) pgs_nil)))) (fun _ _ _ _ _ => pts_nil) (fun _ _ _ _ _ => (pe_op op_mul (pv 3) (pv 4)))) pa_nil)))
      (pss_one (ps_ret (pe_op op_fdiv (pv 2) (pe_gi T.g_MILLION rfl))))), ?_⟩
    refine ⟨_, rfl, _, rfl, q, p, _, _, rfl, SqL.of hq, SqL.of hp, fun D hD => lc_it (J := Itz K q p) (n := (qs.zip ps).length)
      (fun i H' => Ex [] G H G H' ∧ H' D = some (.lst ((((qs.zip ps).take i).map fun z => (z.1 : Int) * (z.2 : Int)).map V.int))) ⟨Ex.new sg hD, upd_same⟩ ?_ ?_ ?_ ?_⟩
    · rintro i H' hi ⟨e, _⟩
      rw [List.length_zip] at hi
      exact ⟨_, _, _, _, SqL.of (e.keep0 hq), SqL.of (e.keep0 hp), (by rw [List.getElem?_map, List.getElem?_eq_getElem (show i < qs.length by omega)]; rfl), (by rw [List.getElem?_map, List.getElem?_eq_getElem (show i < ps.length by omega)]; rfl)⟩
    · rintro H' ⟨e, _⟩
      refine ⟨_, _, SqL.of (e.keep0 hq), SqL.of (e.keep0 hp), ?_⟩
      rw [List.length_zip, List.length_map, List.length_map]
      omega
    · rintro i H' x H'' hi ⟨e, hD'⟩ ⟨tp, x', y', rfl, htp, rfl, hx', hy'⟩
      obtain ⟨a, ha, rfl⟩ := nats_get (hx' _ (SqL.of (e.keep0 hq)))
      obtain ⟨b, hb, rfl⟩ := nats_get (hy' _ (SqL.of (e.keep0 hp)))
      have sm := hsm a (List.mem_of_getElem? ha)
      have hDt : D ≠ tp := ne_of_none hD' htp
      have e2 : Ex [] G H' G (upd H' tp (.tup [nV a, nV b])) := Ex.new e.gh htp
      rw [List.length_zip] at hi
      refine ⟨tp, _, rfl, SqT.of upd_same, rfl, _, _, rfl, _, _, rfl, rfl, rfl, ?_⟩
      refine ⟨_, rfl, _, rfl, _, _, rfl, rfl, .inl ⟨by omega, by omega⟩, _, (by rw [upd_ne hDt]; exact hD'), ?_, ?_, ?_⟩
      · rw [List.length_map, List.length_map, List.length_take, List.length_zip]
        exact Nat.lt_of_le_of_lt (show _ ≤ 6 by omega) (by decide)
      · exact ((e.trans0 e2).trans (Ex.put e2.gh (sg.free hD) (by rw [upd_ne hDt]; exact some_ne hD'))).drop (by simp [hD])
      · show upd _ _ _ _ = _
        rw [upd_same, map_take _ (zip_get ha hb), List.map_append]
        rfl
    · rintro H' ⟨e, hD'⟩
      rw [List.take_length] at hD'
      refine ⟨D, _, rfl, SqL.of hD', ?_⟩
      refine ⟨_, rfl, _, _, rfl, rfl, ⟨by decide, by decide⟩, ?_⟩
      show Q (.int (_ / 1000000)) H'
      rw [worth_eq]
      exact k H' e
def spReckon (A : Ad) : Sp := fun vs H Q _ => ∃ t b l q s k qs G, vs = [.ref t, .ref b, .ref q] ∧ Same G H ∧ TermsAt A H t s ∧ BookAt A H b l k ∧ Nats H q qs ∧ s.qty.length = 6 ∧ (∀ n ∈ s.qty, n ≤ 1000000) ∧ s.rate ≤ 1000000 ∧
  ∀ r G' H', Ex [] G H G' H' → RecAt A G' r (Vbfuam.gross s qs k - (Vbfuam.feeOf s (Vbfuam.gross s qs k) : Int)) (Vbfuam.isum k.units) (Vbfuam.feeOf s (Vbfuam.gross s qs k)) → Q (.ref r) H'
theorem ok_reckon (T : Txt K mg A) : CalF P w K mg base 3 "reckon" ["terms", "book", "quotes"] (spReckon A) := by
  refine calF T.f_reckon sc_reckon (fun _ _ _ _ _ _ us hl => match us, hl with | [_, _, _], _ => rfl) (fun vs H Q E h => ?_) (fun f cdv A1 outer s0 H vs Q E hr h => ?_)
  · obtain ⟨t, b, l, q, s, k, qs, G, rfl, _⟩ := h
    rfl
  · obtain ⟨t, b, l, q, s, k, qs, G, rfl, sg, ⟨tq, tu, ⟨dt, ht⟩, htq, htu⟩, ⟨⟨db, hb⟩, hl⟩, hq, hlen, hsm, hrate, k0⟩ := h
    refine ⟨_, (pss_cons (ps_set (i := 3) sc_reckon.nd rfl (Or.inl rfl) (pe_op op_add (pe_fn (ok_worth_of_things T) (hr.mono (by decide)) rfl (pa_cons (pe_fld (pv 0) rfl) (pa_cons (pv 2) pa_nil))) (pe_fld (pv 1) rfl)))
      (pss_cons (ps_set (i := 4) sc_reckon.nd rfl (Or.inl rfl) (pe_op op_fdiv (pe_op op_mul (pe_callB (call_max2 rfl) (by rfl) T.b_max PyProof.Rows.boot_max (pa_cons (pv 3) (pa_cons pe_int pa_nil))) (pe_fld (pv 0) rfl)) (pe_gi T.g_FEE_PARTS rfl)))
      (pss_one (ps_ret (pe_rec (ok_Reckoning T) (hr.mono (by decide)) rfl (pa_cons (pe_op op_sub (pv 3) (pv 4)) (pa_cons (pe_md0 (ok_Book_units_in_all T) (hr.mono (by decide)) (pv 1)) (pa_cons (pv 4) pa_nil)))))))), ?_⟩
    refine ⟨_, rfl, t, A.cTerms, dt, _, _, rfl, ht, T.cl_Terms, T.na_Terms_quantities, rfl, _, rfl, tq, q, s.qty, qs, G, rfl, sg, htq, hq, hlen, hsm, fun H1 e1 => ?_⟩
    refine ⟨_, rfl, b, A.cBook, db, _, _, rfl, e1.keep0 hb, T.cl_Book, T.na_Book_cash, rfl, _, _, rfl, rfl, ?_⟩
    refine ⟨_, rfl, _, _, rfl, _, rfl, t, A.cTerms, dt, _, _, rfl, e1.keep0 ht, T.cl_Terms, T.na_Terms_rate, rfl, _, _, rfl, rfl, .inr ⟨by omega, by omega⟩, _, _, rfl, rfl, ⟨by decide, by decide⟩, ?_⟩
    have ef : (if (0 : Int) > ((Vbfuam.things s.qty qs : Nat) : Int) + k.cash then (0 : Int) else ((Vbfuam.things s.qty qs : Nat) : Int) + k.cash) * (s.rate : Int) / 365000000 = ((Vbfuam.feeOf s (Vbfuam.gross s qs k) : Nat) : Int) := fee_eq s (Vbfuam.gross s qs k)
    dsimp only
    rw [ef]
    refine ⟨_, rfl, _, rfl, _, _, rfl, rfl, _, rfl, b, db, _, rfl, e1.keep0 hb, rfl, b, l, k, rfl, ⟨⟨db, e1.keep0 hb⟩, e1.keep0 hl⟩, _, rfl, rfl, fun x dx hx hd hn => ?_⟩
    exact k0 x _ _ (e1.trans0 (Ex.made e1.gh hx hd hn)) ⟨dx, upd_same⟩
def spOutcome (A : Ad) : Sp := fun vs H Q _ => ∃ a r d v u f G, vs = [.ref a, .ref r] ∧ Same G H ∧ DealAt A H a d ∧ RecAt A H r v u f ∧ 1 ≤ v ∧ v ≤ 1000000000000000 ∧ 1 ≤ u ∧ DealOk d ∧ ∀ o G' H', Ex [] G H G' H' → H o = Option.none → OutAt A G' o (Vbfuam.done v u d) → Q (.ref o) H'
theorem ok_outcome_at (T : Txt K mg A) : CalF P w K mg base 3 "outcome_at" ["deal", "reckoning"] (spOutcome A) := by
  refine calF T.f_outcome_at sc_outcome_at (fun _ _ _ _ _ _ us hl => match us, hl with | [_, _], _ => rfl) (fun vs H Q E h => ?_) (fun f cdv A1 outer s0 H vs Q E hr h => ?_)
  · obtain ⟨a, r, d, v, u, f, G, rfl, _⟩ := h
    rfl
  · obtain ⟨a, r, d, v, u, f, G, rfl, sg, ⟨da, ha⟩, ⟨dr, hrc⟩, hv, hv2, hu, dk, k⟩ := h
    have am1 := dk.a1
    have am2 := dk.a2
    refine ⟨_, (pss_cons (ps_if (pt_cmpR op_eq (pe_fld (pv 0) rfl) (pe_gi T.g_MONEY_IN rfl) (nomark _)) (pss_one (ps_ret (pe_rec (ok_Outcome T) (hr.mono (by decide)) rfl (pa_cons (pe_fld (pv 0) rfl) (pa_cons (pe_op op_fdivB (pe_op op_mul (pe_fld (pv 0) rfl) (pe_fld (pv 1) rfl)) (pe_fld (pv 1) rfl)) pa_nil))))) pss_nil)
      (pss_cons (ps_set (i := 2) sc_outcome_at.nd rfl (Or.inl rfl) (pe_op op_fdivB (pe_op op_mul (pe_fld (pv 0) rfl) (pe_fld (pv 1) rfl)) (pe_fld (pv 1) rfl)))
      (pss_one (ps_ret (pe_rec (ok_Outcome T) (hr.mono (by decide)) rfl (pa_cons (pe_un un_neg (pv 2)) (pa_cons (pe_un un_neg (pe_fld (pv 0) rfl)) pa_nil))))))), ?_⟩
    refine ⟨_, rfl, a, A.cDeal, da, _, _, rfl, ha, T.cl_Deal, T.na_Deal_kind, rfl, rfl, _, rfl, ite2 (fun hk => ?_) (fun hk => ?_)⟩
    · have hk0 : d.kind = 0 := by
        have q : V.int (d.kind : Int) = V.int 0 := of_decide_eq_true hk
        have q2 : (d.kind : Int) = 0 := V.int.inj q
        omega
      refine ⟨_, rfl, a, A.cDeal, da, _, _, rfl, ha, T.cl_Deal, T.na_Deal_amount, rfl, _, rfl, a, A.cDeal, da, _, _, rfl, ha, T.cl_Deal, T.na_Deal_amount, rfl, _, rfl, r, A.cRec, dr, _, _, rfl, hrc, T.cl_Reckoning, T.na_Reckoning_units, rfl, _, _, rfl, rfl, .inl ⟨by omega, by omega⟩,
        _, rfl, r, A.cRec, dr, _, _, rfl, hrc, T.cl_Reckoning, T.na_Reckoning_value, rfl, _, _, rfl, rfl, ⟨by omega, .inl (by omega)⟩, rfl, fun x dx hx hd hn => ?_⟩
      refine k x _ _ (Ex.made sg hx hd hn) hx ⟨dx, ?_⟩
      rw [upd_same, done_in hv hu hk0]
      rfl
    · have hk0 : ¬ d.kind = 0 := fun z => hk (by
        show decide (V.int (d.kind : Int) = V.int 0) = true
        rw [z]
        rfl)
      have hm1 : (0 : Int) ≤ (d.amount : Int) * v := Int.mul_nonneg (by omega) (by omega)
      have hm2 : (d.amount : Int) * v ≤ 1000000000000 * 1000000000000000 := Int.mul_le_mul (by omega) hv2 (by omega) (by omega)
      refine ⟨_, rfl, a, A.cDeal, da, _, _, rfl, ha, T.cl_Deal, T.na_Deal_amount, rfl, _, rfl, r, A.cRec, dr, _, _, rfl, hrc, T.cl_Reckoning, T.na_Reckoning_value, rfl, _, _, rfl, rfl, .inl ⟨by omega, by omega⟩,
        _, rfl, r, A.cRec, dr, _, _, rfl, hrc, T.cl_Reckoning, T.na_Reckoning_units, rfl, _, _, rfl, rfl, ⟨by omega, .inr ⟨by omega, by omega⟩⟩, ?_⟩
      refine ⟨_, rfl, _, rfl, _, rfl, a, A.cDeal, da, _, _, rfl, ha, T.cl_Deal, T.na_Deal_amount, rfl, _, rfl, rfl, fun x dx hx hd hn => ?_⟩
      refine k x _ _ (Ex.made sg hx hd hn) hx ⟨dx, ?_⟩
      rw [upd_same, done_out hv hu hk0]
      rfl
def spResult (A : Ad) : Sp := fun vs H Q _ => ∃ l r ds v u f G, vs = [.ref l, .ref r] ∧ Same G H ∧ DealsAt A H l ds ∧ RecAt A H r v u f ∧ 1 ≤ v ∧ v ≤ 1000000000000000 ∧ 1 ≤ u ∧ DealsOk ds ∧ ∀ a G' H', Ex [] G H G' H' → H a = Option.none → ResAt A G' a f (ds.map (Vbfuam.done v u)) → Q (.ref a) H'
theorem ok_result_at (T : Txt K mg A) : CalF P w K mg base 4 "result_at" ["deals", "reckoning"] (spResult A) := by
  refine calF T.f_result_at sc_result_at (fun _ _ _ _ _ _ us hl => match us, hl with | [_, _], _ => rfl) (fun vs H Q E h => ?_) (fun f cdv A1 outer s0 H vs Q E hr h => ?_)
  · obtain ⟨l, r, ds, v, u, f, G, rfl, _⟩ := h
    rfl
  · obtain ⟨l, r, ds, v, u, f, G, rfl, sg, ⟨as, hl, pd⟩, ⟨dr, hrc⟩, hv, hv2, hu, dk, k⟩ := h
    refine ⟨_, (pss_one (ps_ret (pe_rec (ok_DayResult T) (hr.mono (by decide)) rfl (pa_cons (pe_fld (pv 1) rfl) (pa_cons (pe_lc rfl sc_result_at.nd (pi_list (pv 0)) (blkOk_by (own := [("deal", 2)]) rfl) (fun _ _ _ _ _ => (pg_name (i := 2) sc_result_at.nd rfl (Or.inl rfl) (Or.inr rfl))) (fun _ _ _ _ _ => pts_nil) (fun _ _ _ _ _ => (pe_fn (ok_outcome_at T) (hr.mono (by decide)) rfl (pa_cons (pv 2) (pa_cons (pv 1) pa_nil))))) pa_nil))))), ?_⟩
    refine ⟨_, rfl, r, A.cRec, dr, _, _, rfl, hrc, T.cl_Reckoning, T.na_Reckoning_fee, rfl, _, rfl, l, rfl, ⟨_, SqL.of hl⟩, fun D hD => lc_list (K := K) (a := l) (xs := as.map V.ref)
      (fun i H' => ∃ G' os, Ex [] G H G' H' ∧ G' D = Option.none ∧ Refs H' D os ∧ P2 (OutAt A G') os ((ds.take i).map (Vbfuam.done v u))) ⟨G, [], Ex.new sg hD, sg.free hD, upd_same, .nil⟩ ?_ ?_ ?_⟩
    · rintro i H' hi ⟨G', os, e, _⟩
      exact SqL.of (e.keep0 hl)
    · rintro i x H' hx ⟨G', os, e, gD, hD', po⟩
      obtain ⟨a, ha, rfl⟩ := refs_get hx
      obtain ⟨d, hd, hda⟩ := pd.right ha
      have hil : i < ds.length := (List.getElem?_eq_some_iff.mp hd).1
      have few := dk.few
      refine ⟨rfl, ?_⟩
      refine ⟨_, rfl, _, rfl, a, r, d, v, u, f, G', rfl, e.gh, hda.mono e.same0, ⟨dr, e.keep0 hrc⟩, hv, hv2, hu, dk.all d (List.mem_of_getElem? hd), fun o G2 H2 e2 ho hoa => ?_⟩
      have gD2 : G2 D = Option.none := e2.apart hD' gD (by simp)
      refine ⟨_, e2.keep0 hD', ?_, G2, os ++ [o], ?_, gD2, ?_, ?_⟩
      · have hp := po.len
        rw [List.length_map, List.length_take] at hp
        rw [List.length_map]
        exact Nat.lt_of_le_of_lt (show _ ≤ 10 by omega) (by decide)
      · exact ((e.trans0 e2).trans (Ex.put e2.gh gD2 (some_ne (e2.keep0 hD')))).drop (by simp [hD])
      · show upd _ _ _ _ = _
        rw [upd_same, List.map_append]
        rfl
      · rw [map_take _ hd]
        exact (po.imp fun _ _ q => q.mono e2.gg).snoc hoa
    · rintro H' ⟨G', os, e, gD, hD', po⟩
      rw [List.length_map, pd.len, List.take_length] at po
      have e2 := e.adopt sg hD hD' gD
      refine ⟨rfl, fun x dx hx hd hn => ?_⟩
      have e3 := Ex.made (o := .ins A.cRes dx (fRes (nV f) (.ref D))) e2.gh hx hd hn
      refine k x _ _ (e2.trans0 e3) (e.freeH hx) ⟨D, ⟨dx, upd_same⟩, os, e3.gg _ _ upd_same, po.imp fun _ _ q => (q.mono (same_new gD)).mono e3.gg⟩
end
end My
set_option Elab.async false
set_option linter.all false
set_option maxRecDepth 100000
set_option maxHeartbeats 2000000
namespace My
open PySem PySem.Spec PyProof.Rows L2
open Vbfuam (State Deal Out Day Fix Book Right)
section
variable {P : Program} {w : World} {K : PySem.W.Frag} {mg : Str → Option Value} {base : Heap} {A : Ad}
def fixQ (fs : List Fix) (n : Nat) (qs : List Nat) (i : Nat) : Nat := match fs.find? fun f => f.day == n && f.thing == i + 1 with
  | some f => f.quote
  | none => qs.getD i 0
def spQuotes (A : Ad) : Sp := fun vs H Q _ => ∃ q c n qs fs G, vs = [.ref q, nV n, .ref c] ∧ Same G H ∧ Nats H q qs ∧ qs.length = 6 ∧ FixesAt H c fs ∧ ∀ r H', Ex [] G H G H' → H r = Option.none → Nats H' r ((List.range 6).map (fixQ fs n qs)) → Q (.ref r) H'
theorem ok_right_quotes (T : Txt K mg A) : CalF P w K mg base 1 "right_quotes" ["quotes", "number", "corrections"] (spQuotes A) := by
  refine calF T.f_right_quotes sc_right_quotes (fun _ _ _ _ _ _ us hl => match us, hl with | [_, _, _], _ => rfl) (fun vs H Q E h => ?_) (fun f cdv A1 outer s0 H vs Q E hr h => ?_)
  · obtain ⟨q, c, n, qs, fs, G, rfl, _⟩ := h
    rfl
  · obtain ⟨q, c, n, qs, fs, G, rfl, sg, hq, hlen, ⟨kvs, hc, fr⟩, k⟩ := h
    refine ⟨_, (pss_one (ps_ret (pe_lc (g := gTup K 2 (gCons (gName 3) (gCons (gName 4) gNil))) rfl sc_right_quotes.nd (pi_enumS rfl T.b_enumerate (pa_cons (pv 0) pa_nil) (pk_cons pe_int pk_nil)) (blkOk_by (own := [("thing", 3), ("quote", 4)]) rfl) (fun _ _ _ _ _ => (pg_tup rfl (pgs_cons (pg_name (i := 3) sc_right_quotes.nd rfl (Or.inl rfl) (Or.inr rfl)) (pgs_cons (pg_name (i := 4) sc_right_quotes.nd rfl (Or.inl rfl) (Or.inr rfl)) pgs_nil)))) (fun _ _ _ _ _ => pts_nil)
      (fun _ _ _ _ _ => (pe_dget2 (hu_of hr) (pv 2) (pe_tup (pa_cons (pv 1) (pa_cons (pv 3) pa_nil))) (pv 4) ⟨rfl, rfl, rfl, rfl⟩))))), ?_⟩
    refine ⟨_, rfl, q, _, 1, rfl, rfl, rfl, SqL.of hq, fun D hD => lc_it (J := Ites K 1 q) (n := 6)
      (fun i H' => Ex [] G H G H' ∧ Nats H' D (((List.range 6).take i).map (fixQ fs n qs))) ⟨Ex.new sg hD, upd_same⟩ ?_ ?_ ?_ ?_⟩
    · rintro i H' hi ⟨e, _⟩
      exact ⟨_, _, SqL.of (e.keep0 hq), by rw [List.getElem?_map, List.getElem?_eq_getElem (show i < qs.length by omega)]; rfl⟩
    · rintro H' ⟨e, _⟩
      exact ⟨_, SqL.of (e.keep0 hq), by rw [List.length_map]; omega⟩
    · rintro i H' x H'' hi ⟨e, hD'⟩ ⟨tp, x', rfl, htp, rfl, hx'⟩
      obtain ⟨a, ha, rfl⟩ := nats_get (hx' _ (SqL.of (e.keep0 hq)))
      have hDt : D ≠ tp := ne_of_none hD' htp
      have e2 : Ex [] G H' G (upd H' tp (.tup [.int (1 + (i : Nat)), nV a])) := Ex.new e.gh htp
      have ei : (1 : Int) + ((i : Nat) : Int) = ((i + 1 : Nat) : Int) := by omega
      refine ⟨tp, _, rfl, SqT.of upd_same, rfl, _, _, rfl, _, _, rfl, rfl, rfl, ?_⟩
      refine ⟨_, rfl, c, rfl, .inr ⟨kvs, .inl (e2.keep0 (e.keep0 hc))⟩, _, rfl, _, rfl, (by show 2 ≤ sizeLine; decide), fun kt hkt => ⟨_, rfl, _, DGet.t (k := [.inl (n : Int), .inl ((i + 1 : Nat) : Int)]) (by rw [upd_ne (ne_of_none (e2.keep0 (e.keep0 hc)) hkt)]; exact e2.keep0 (e.keep0 hc)) (by rw [upd_same, ei]; rfl), ?_⟩⟩
      have e3 : Ex [] G (upd H' tp (.tup [.int (1 + (i : Nat)), nV a])) G (upd (upd H' tp (.tup [.int (1 + (i : Nat)), nV a])) kt (.tup [nV n, .int (1 + (i : Nat))])) := Ex.new e2.gh hkt
      have hD3 := e3.keep0 (e2.keep0 hD')
      refine ⟨_, hD3, ?_, ?_, ?_⟩
      · rw [List.length_map, List.length_map, List.length_take, List.length_range]
        exact Nat.lt_of_le_of_lt (show _ ≤ 6 by omega) (by decide)
      · exact (((e.trans0 e2).trans0 e3).trans (Ex.put e3.gh (sg.free hD) (some_ne hD3))).drop (by simp [hD])
      · have hr6 : (List.range 6)[i]? = some i := by rw [List.getElem?_range hi]
        show upd _ _ _ _ = _
        rw [upd_same, map_take _ hr6, List.map_append, fr.get n (i + 1)]
        have ev : (Option.map (fun f => nV f.quote) (fs.find? fun f => f.day == n && f.thing == i + 1)).getD (nV a) = nV (fixQ fs n qs i) := by
          unfold fixQ
          cases fs.find? fun f => f.day == n && f.thing == i + 1 with
          | some f => rfl
          | none =>
            show nV a = nV (qs.getD i 0)
            rw [List.getD_eq_getElem?_getD, ha]
            rfl
        rw [ev]
        rfl
    · rintro H' ⟨e, hD'⟩
      exact k D H' e hD hD'
def spAgain (A : Ad) : Sp := fun vs H Q _ => ∃ (lim : Nat) (p r : Addr) (V1 U : Int) (F : Nat) (v u : Int) (f : Nat), vs = [nV lim, .ref p, .ref r] ∧ RecAt A H p V1 U F ∧ RecAt A H r v u f ∧ lim ≤ 1000000 ∧ 1 ≤ V1 ∧ V1 ≤ 1000000000000000 ∧ v ≤ 1000000000000000 ∧
  Q (.bl (decide (¬ (v < 1 ∨ u < 1) ∧ (lim : Int) * v * U ≤ ((V1 * u - v * U).natAbs : Int) * 1000000))) H
theorem ok_is_done_again (T : Txt K mg A) : CalF P w K mg base 2 "is_done_again" ["limit", "published", "right"] (spAgain A) := by
  refine calF T.f_is_done_again sc_is_done_again (fun _ _ _ _ _ _ us hl => match us, hl with | [_, _, _], _ => rfl) (fun vs H Q E h => ?_) (fun f cdv A1 outer s0 H vs Q E hr h => ?_)
  · obtain ⟨lim, p, r, V1, U, F, v, u, f, rfl, _⟩ := h
    rfl
  · obtain ⟨lim, p, r, V1, U, F, v, u, f, rfl, ⟨dp, hp⟩, ⟨dr, hrc⟩, hlim, hV, hV2, hv2, k⟩ := h
    refine ⟨_, (pss_cons (ps_if (pt_not (pt_val (pe_md0 (ok_Reckoning_has_price T) (hr.mono (by decide)) (pv 2)))) (pss_one (ps_ret pe_bl)) pss_nil)
      (pss_cons (ps_set (i := 3) sc_is_done_again.nd rfl (Or.inl rfl) (pe_op op_mul (pe_fld (pv 2) rfl) (pe_fld (pv 1) rfl)))
      (pss_cons (ps_set (i := 4) sc_is_done_again.nd rfl (Or.inl rfl) (pe_callB call_abs (by rfl) T.b_abs PyProof.Rows.boot_abs (pa_cons (pe_op op_sub (pe_op op_mul (pe_fld (pv 1) rfl) (pe_fld (pv 2) rfl)) (pv 3)) pa_nil)))
      (pss_one (ps_ret (pe_cmpR op_le (pe_op op_mul (pv 0) (pv 3)) (pe_op op_mul (pe_gi T.g_MILLION rfl) (pv 4)) (nomark _))))))), ?_⟩
    refine ⟨_, rfl, r, dr, _, rfl, hrc, rfl, r, v, u, f, rfl, ⟨dr, hrc⟩, _, rfl, ?_⟩
    by_cases hlow : v < 1 ∨ u < 1
    · have e1 : (decide (1 ≤ v) && decide (1 ≤ u)) = false := by
        rcases hlow with h | h
        · rw [decide_eq_false (show ¬ 1 ≤ v by omega), Bool.false_and]
        · rw [decide_eq_false (show ¬ 1 ≤ u by omega), Bool.and_false]
      rw [e1]
      refine iteT ?_
      rw [decide_eq_false (fun z => z.1 hlow)] at k
      exact k
    · have h1 : 1 ≤ v := by omega
      have h2 : 1 ≤ u := by omega
      rw [decide_eq_true h1, decide_eq_true h2]
      refine iteF ?_
      refine ⟨_, rfl, r, A.cRec, dr, _, _, rfl, hrc, T.cl_Reckoning, T.na_Reckoning_value, rfl, _, rfl, p, A.cRec, dp, _, _, rfl, hp, T.cl_Reckoning, T.na_Reckoning_units, rfl, _, _, rfl, rfl, .inl ⟨by omega, by omega⟩, ?_⟩
      refine ⟨_, rfl, p, A.cRec, dp, _, _, rfl, hp, T.cl_Reckoning, T.na_Reckoning_value, rfl, _, rfl, r, A.cRec, dr, _, _, rfl, hrc, T.cl_Reckoning, T.na_Reckoning_units, rfl, _, _, rfl, rfl, .inl ⟨by omega, by omega⟩, _, rfl, _, _, rfl, rfl, _, rfl, ?_⟩
      refine ⟨_, rfl, _, rfl, _, _, rfl, rfl, .inl ⟨by omega, by omega⟩, _, rfl, _, _, rfl, rfl, .inl ⟨by decide, by decide⟩, _, _, rfl, rfl, ?_⟩
      have e2 : (if V1 * u - v * U < 0 then -(V1 * u - v * U) else V1 * u - v * U) = (((V1 * u - v * U).natAbs : Nat) : Int) := by
        split <;> omega
      rw [e2]
      have e3 : decide ((lim : Int) * (v * U) ≤ 1000000 * (((V1 * u - v * U).natAbs : Nat) : Int)) = decide (¬ (v < 1 ∨ u < 1) ∧ (lim : Int) * v * U ≤ ((V1 * u - v * U).natAbs : Int) * 1000000) := by
        rw [Int.mul_assoc, Int.mul_comm 1000000]
        exact decide_eq_decide.mpr ⟨fun z => ⟨hlow, z⟩, fun z => z.2⟩
      rw [← e3] at k
      exact k
end
end My
set_option Elab.async false
set_option linter.all false
set_option maxRecDepth 100000
set_option maxHeartbeats 2000000
namespace My
open PySem PySem.Spec PyProof.Rows L2
open Vbfuam (State Deal Out Day Fix Book Right)
section
variable {P : Program} {w : World} {K : PySem.W.Frag} {mg : Str → Option Value} {base : Heap} {A : Ad}
def spRightDay (A : Ad) : Sp := fun vs H Q _ => ∃ t b l y q s k d n m G, vs = [.ref t, .ref b, .ref y, .ref q] ∧ Same G H ∧ Good s ∧ TermsAt A H t s ∧ BookAt A H b l k ∧ BookOk m k ∧ m ≤ 60 ∧ DayAt A G H y d ∧ DayOk d ∧ Nats H q (Vbfuam.fixedQuotes s n d) ∧
  ∀ r G' H', Ex [] G H G' H' → H r = Option.none → RightAt A G' r (Vbfuam.judged s n d k) → Q (.ref r) H'
theorem ok_right_day (T : Txt K mg A) : CalF P w K mg base 5 "right_day" ["terms", "book", "day", "quotes"] (spRightDay A) := by
  refine calF T.f_right_day sc_right_day (fun _ _ _ _ _ _ us hl => match us, hl with | [_, _, _, _], _ => rfl) (fun vs H Q E h => ?_) (fun f cdv A1 outer s0 H vs Q E hr h => ?_)
  · obtain ⟨t, b, l, y, q, s, k, d, n, m, G, rfl, _⟩ := h
    rfl
  · obtain ⟨t, b, l, y, q, s, k, d, n, m, G, rfl, sg, g, ht, hB, bok, hm, ⟨yq, yl, yr, yp, ys, ⟨dy, hy⟩, y1, y2, y3, y4, y5⟩, dok, hq, k0⟩ := h
    refine ⟨_, (pss_cons (ps_set (i := 4) sc_right_day.nd rfl (Or.inl rfl) (pe_fn (ok_reckon T) (hr.mono (by decide)) rfl (pa_cons (pv 0) (pa_cons (pv 1) (pa_cons (pv 3) pa_nil)))))
      (pss_cons (ps_if (pt_not (pt_val (pe_fn (ok_is_done_again T) (hr.mono (by decide)) rfl (pa_cons (pe_fld (pv 0) rfl) (pa_cons (pe_fld (pv 2) rfl) (pa_cons (pv 4) pa_nil)))))) (pss_one (ps_ret (pe_rec (ok_RightDay T) (hr.mono (by decide)) rfl (pa_cons (pv 4) (pa_cons pe_bl (pa_cons (pe_fld (pv 2) rfl) pa_nil)))))) pss_nil)
      (pss_cons (ps_set (i := 5) sc_right_day.nd rfl (Or.inl rfl) (pe_or (pe_cmpR op_ne (pe_fld (pv 4) rfl) (pe_fld (pe_fld (pv 2) rfl) rfl) (nomark _)) (pe_one (pe_cmpR op_ne (pe_fld (pv 4) rfl) (pe_fld (pe_fld (pv 2) rfl) rfl) (nomark _)))))
      (pss_one (ps_ret (pe_rec (ok_RightDay T) (hr.mono (by decide)) rfl (pa_cons (pv 4) (pa_cons (pv 5) (pa_cons (pe_fn (ok_result_at T) (hr.mono (by decide)) rfl (pa_cons (pe_fld (pv 2) rfl) (pa_cons (pv 4) pa_nil))) pa_nil))))))))), ?_⟩
    obtain ⟨tq, tu, ⟨dt, ht1⟩, ht2⟩ := id ht
    have qok := fixedQuotes_ok g (n := n) dok
    have vle := value_le g qok hm bok
    have r1 := g.rate
    have l1 := g.limit
    have v1 := dok.v1
    have v2 := dok.v2
    have u1 := dok.u1
    refine ⟨_, rfl, _, rfl, _, rfl, t, b, l, q, s, k, _, G, rfl, sg, ht, hB, hq, g.qlen, g.qty, g.rate, fun rc G1 H1 e1 hrc => ?_⟩
    have hrc1 := hrc.mono e1.gh
    obtain ⟨dc, hc⟩ := id hrc1
    obtain ⟨dr, hyr⟩ := (y3.mono e1.gg).mono e1.gh
    have hJ : Vbfuam.judged s n d k = (if Vbfuam.gross s (Vbfuam.fixedQuotes s n d) k - (Vbfuam.feeOf s (Vbfuam.gross s (Vbfuam.fixedQuotes s n d) k) : Int) < 1 ∨ Vbfuam.isum k.units < 1 then
        ({ wrong := false, value := Vbfuam.gross s (Vbfuam.fixedQuotes s n d) k - (Vbfuam.feeOf s (Vbfuam.gross s (Vbfuam.fixedQuotes s n d) k) : Int), units := Vbfuam.isum k.units, fee := d.fee, outs := d.first } : Right)
      else if (s.limit : Int) * (Vbfuam.gross s (Vbfuam.fixedQuotes s n d) k - (Vbfuam.feeOf s (Vbfuam.gross s (Vbfuam.fixedQuotes s n d) k) : Int)) * d.units ≤ ((d.value * Vbfuam.isum k.units - (Vbfuam.gross s (Vbfuam.fixedQuotes s n d) k - (Vbfuam.feeOf s (Vbfuam.gross s (Vbfuam.fixedQuotes s n d) k) : Int)) * d.units).natAbs : Int) * (Vbfuam.MILLION : Int) then
        { wrong := decide (Vbfuam.gross s (Vbfuam.fixedQuotes s n d) k - (Vbfuam.feeOf s (Vbfuam.gross s (Vbfuam.fixedQuotes s n d) k) : Int) ≠ d.value) || decide (Vbfuam.isum k.units ≠ d.units), value := Vbfuam.gross s (Vbfuam.fixedQuotes s n d) k - (Vbfuam.feeOf s (Vbfuam.gross s (Vbfuam.fixedQuotes s n d) k) : Int), units := Vbfuam.isum k.units, fee := Vbfuam.feeOf s (Vbfuam.gross s (Vbfuam.fixedQuotes s n d) k), outs := d.deals.map (Vbfuam.done (Vbfuam.gross s (Vbfuam.fixedQuotes s n d) k - (Vbfuam.feeOf s (Vbfuam.gross s (Vbfuam.fixedQuotes s n d) k) : Int)) (Vbfuam.isum k.units)) }
      else { wrong := false, value := Vbfuam.gross s (Vbfuam.fixedQuotes s n d) k - (Vbfuam.feeOf s (Vbfuam.gross s (Vbfuam.fixedQuotes s n d) k) : Int), units := Vbfuam.isum k.units, fee := d.fee, outs := d.first }) := rfl
    rw [hJ] at k0
    generalize Vbfuam.gross s (Vbfuam.fixedQuotes s n d) k - (Vbfuam.feeOf s (Vbfuam.gross s (Vbfuam.fixedQuotes s n d) k) : Int) = v at *
    generalize Vbfuam.feeOf s (Vbfuam.gross s (Vbfuam.fixedQuotes s n d) k) = f at *
    generalize Vbfuam.isum k.units = u at *
    refine ⟨_, rfl, t, A.cTerms, dt, _, _, rfl, e1.keep0 ht1, T.cl_Terms, T.na_Terms_limit, rfl, _, rfl, y, A.cDay, dy, _, _, rfl, e1.keep0 hy, T.cl_ClosedDay, T.na_ClosedDay_reckoning, rfl, _, rfl,
      s.limit, yr, rc, d.value, d.units, d.fee, v, u, f, rfl, ⟨dr, hyr⟩, hrc1, g.limit, dok.v1, dok.v2, vle, _, rfl, ?_⟩
    by_cases hlow : v < 1 ∨ u < 1
    · rw [decide_eq_false (fun z => z.1 hlow)]
      rw [if_pos hlow] at k0
      refine iteT ⟨_, rfl, _, rfl, y, A.cDay, dy, _, _, rfl, e1.keep0 hy, T.cl_ClosedDay, T.na_ClosedDay_published, rfl, rfl, fun x dx hx hd hn => ?_⟩
      have e2 := Ex.made (o := .ins A.cRight dx (fRight (.ref rc) (.bl false) (.ref yp))) e1.gh hx hd hn
      exact k0 x _ _ (e1.trans0 e2) (e1.freeH hx) ⟨rc, f, yp, ⟨dx, upd_same⟩, hrc.mono e2.gg, (y4.mono e1.gg).mono e2.gg⟩
    · rw [if_neg hlow] at k0
      by_cases hdo : (s.limit : Int) * v * d.units ≤ ((d.value * u - v * d.units).natAbs : Int) * 1000000
      · rw [decide_eq_true ⟨hlow, hdo⟩]
        rw [if_pos (show (s.limit : Int) * v * d.units ≤ ((d.value * u - v * d.units).natAbs : Int) * (Vbfuam.MILLION : Int) from hdo)] at k0
        refine iteF ?_
        have fin : ∀ wr : Bool, wr = (decide (v ≠ d.value) || decide (u ≠ d.units)) → tRet (tNew A.cRight 3 (fs3 fRight) (tCons (tVar 4) (tCons (tVar 5) (tCons (tCall (spResult A) [] E0 (tCons (tFld K (tVar 2) "deals") (tCons (tVar 4) tNil))) tNil))))
            { nx := fun _ H' => Q .non H', rt := Q } [some (.ref t), some (.ref b), some (.ref y), some (.ref q), some (.ref rc), some (.bl wr)] H1 := fun wr hwr => by
          refine ⟨_, rfl, _, rfl, _, rfl, y, A.cDay, dy, _, _, rfl, e1.keep0 hy, T.cl_ClosedDay, T.na_ClosedDay_deals, rfl, _, rfl, yl, rc, d.deals, v, u, f, G1, rfl, e1.gh, (y2.mono e1.gg).mono e1.gh, hrc1, by omega, vle, by omega, dok.deals, fun p G2 H2 e2 hp hres => ?_⟩
          refine ⟨rfl, fun x dx hx hd hn => ?_⟩
          have e3 := Ex.made (o := .ins A.cRight dx (fRight (.ref rc) (.bl wr) (.ref p))) e2.gh hx hd hn
          refine k0 x _ _ ((e1.trans0 e2).trans0 e3) (e1.freeH (e2.freeH hx)) ⟨rc, f, p, ⟨dx, ?_⟩, (hrc.mono e2.gg).mono e3.gg, hres.mono e3.gg⟩
          rw [upd_same, hwr]
        refine ⟨_, rfl, rc, A.cRec, dc, _, _, rfl, hc, T.cl_Reckoning, T.na_Reckoning_value, rfl, _, rfl, y, A.cDay, dy, _, _, rfl, e1.keep0 hy, T.cl_ClosedDay, T.na_ClosedDay_reckoning, rfl, yr, A.cRec, dr, _, _, rfl, hyr, T.cl_Reckoning, T.na_Reckoning_value, rfl, rfl, _, rfl, ?_⟩
        by_cases hv : v = d.value
        · have e2 : (!decide (V.int v = V.int d.value)) = false := by rw [hv]; simp
          rw [e2]
          refine iteF ?_
          refine ⟨_, rfl, rc, A.cRec, dc, _, _, rfl, hc, T.cl_Reckoning, T.na_Reckoning_units, rfl, _, rfl, y, A.cDay, dy, _, _, rfl, e1.keep0 hy, T.cl_ClosedDay, T.na_ClosedDay_reckoning, rfl, yr, A.cRec, dr, _, _, rfl, hyr, T.cl_Reckoning, T.na_Reckoning_units, rfl, rfl, ?_⟩
          refine fin _ ?_
          rw [decide_eq_false (fun z : v ≠ d.value => z hv), Bool.false_or]
          by_cases hu : u = d.units
          · rw [hu]; simp
          · rw [decide_eq_false (fun z : V.int u = V.int d.units => hu (V.int.inj z)), decide_eq_true hu]
            rfl
        · have e2 : (!decide (V.int v = V.int d.value)) = true := by rw [decide_eq_false (fun z : V.int v = V.int d.value => hv (V.int.inj z))]; rfl
          rw [e2]
          refine iteT ?_
          refine fin true ?_
          rw [decide_eq_true hv, Bool.true_or]
      · rw [decide_eq_false (fun z => hdo z.2)]
        rw [if_neg (show ¬ (s.limit : Int) * v * d.units ≤ ((d.value * u - v * d.units).natAbs : Int) * (Vbfuam.MILLION : Int) from hdo)] at k0
        refine iteT ⟨_, rfl, _, rfl, y, A.cDay, dy, _, _, rfl, e1.keep0 hy, T.cl_ClosedDay, T.na_ClosedDay_published, rfl, rfl, fun x dx hx hd hn => ?_⟩
        have e2 := Ex.made (o := .ins A.cRight dx (fRight (.ref rc) (.bl false) (.ref yp))) e1.gh hx hd hn
        exact k0 x _ _ (e1.trans0 e2) (e1.freeH hx) ⟨rc, f, yp, ⟨dx, upd_same⟩, hrc.mono e2.gg, (y4.mono e1.gg).mono e2.gg⟩
end
end My
set_option Elab.async false
set_option linter.all false
set_option maxRecDepth 100000
set_option maxHeartbeats 2000000
namespace My
open PySem PySem.Spec PyProof.Rows L2
open Vbfuam (State Deal Out Day Fix Book Right)
section
variable {P : Program} {w : World} {K : PySem.W.Frag} {mg : Str → Option Value} {base : Heap} {A : Ad}
def spDayInit (A : Ad) : Sp := fun vs H Q _ => ∃ x dx q l r ds v u f G, vs = [.ref x, .ref q, .ref l, .ref r] ∧ Same G H ∧ G x = Option.none ∧ H x = some (.ins A.cDay dx []) ∧ DealsAt A H l ds ∧ RecAt A H r v u f ∧ (∀ H', (∀ b o, H b = some o → b ≠ x → H' b = some o) → DealsAt A H' l ds ∧ RecAt A H' r v u f) ∧
  1 ≤ v ∧ v ≤ 1000000000000000 ∧ 1 ≤ u ∧ DealsOk ds ∧
  ∀ p G' H', Ex [x] G H G' H' → G' x = Option.none → H' x = some (.ins A.cDay dx (fDay (.ref q) (.ref l) (.ref r) (.ref p) (.ref p))) → ResAt A G' p f (ds.map (Vbfuam.done v u)) → Q .non H'
theorem ok_ClosedDay (T : Txt K mg A) : CalC P w K mg base 5 "ClosedDay" A.cDay ["self", "quotes", "deals", "reckoning"] (spDayInit A) := by
  refine calC T.f_ClosedDay sc_ClosedDay_init (fun _ _ _ _ _ _ us hl => match us, hl with | [_, _, _, _], _ => rfl) (fun vs H Q E h => ?_) (fun f cdv A1 outer s0 H vs Q E hr h => ?_)
  · obtain ⟨x, dx, q, l, r, ds, v, u, f, G, rfl, _⟩ := h
    rfl
  · obtain ⟨x, dx, q, l, r, ds, v, u, f, G, rfl, sg, gx, hx, hd0, hr0, hk, hv, hv2, hu, dok, k⟩ := h
    refine ⟨_, (pss_cons (ps_fld (pv 0) (pv 1) rfl)
      (pss_cons (ps_fld (pv 0) (pv 2) rfl)
      (pss_cons (ps_fld (pv 0) (pv 3) rfl)
      (pss_cons (ps_fld (pv 0) (pe_fn (ok_result_at T) (hr.mono (by decide)) rfl (pa_cons (pv 2) (pa_cons (pv 3) pa_nil))) rfl)
      (pss_one (ps_fld (pv 0) (pe_fld (pv 0) rfl) rfl)))))), ?_⟩
    refine ⟨_, rfl, _, rfl, x, A.cDay, dx, _, rfl, hx, T.cl_ClosedDay, T.na_ClosedDay_quotes, (by show 0 < 1000; decide), ?_⟩
    refine ⟨_, rfl, _, rfl, x, A.cDay, dx, _, rfl, upd_same, T.cl_ClosedDay, T.na_ClosedDay_deals, (by show 1 < 1000; decide), ?_⟩
    refine ⟨_, rfl, _, rfl, x, A.cDay, dx, _, rfl, upd_same, T.cl_ClosedDay, T.na_ClosedDay_reckoning, (by show 2 < 1000; decide), ?_⟩
    rw [upd_upd, upd_upd]
    have e1 : Ex [x] G H G (upd H x (.ins A.cDay dx [("quotes", .ref q), ("deals", .ref l), ("reckoning", .ref r)])) := Ex.put sg gx (some_ne hx)
    obtain ⟨h1, h2⟩ := hk _ (fun b o e z => e1.hh b o e (by simp [z]))
    refine ⟨_, rfl, _, rfl, l, r, ds, v, u, f, G, rfl, e1.gh, h1, h2, hv, hv2, hu, dok, fun p G2 H2 e2 hp hres => ?_⟩
    have hx2 := e2.keep0 (show (upd H x (.ins A.cDay dx [("quotes", .ref q), ("deals", .ref l), ("reckoning", .ref r)])) x = _ from upd_same)
    refine ⟨_, rfl, x, A.cDay, dx, _, rfl, hx2, T.cl_ClosedDay, T.na_ClosedDay_published, (by show 3 < 1000; decide), ?_⟩
    refine ⟨_, rfl, x, A.cDay, dx, _, _, rfl, upd_same, T.cl_ClosedDay, T.na_ClosedDay_published, rfl, _, rfl, x, A.cDay, dx, _, rfl, upd_same, T.cl_ClosedDay, T.na_ClosedDay_standing, (by show 4 < 1000; decide), ?_⟩
    show Q .non _
    rw [upd_upd]
    have gx2 : G2 x = Option.none := e2.apart (show (upd H x (.ins A.cDay dx [("quotes", .ref q), ("deals", .ref l), ("reckoning", .ref r)])) x = _ from upd_same) gx (by simp)
    exact k p G2 _ (((e1.trans e2).trans (Ex.put e2.gh gx2 (some_ne hx2))).weak (by simp)) gx2 upd_same hres
def spBehind (A : Ad) : Sp := fun vs H Q _ => ∃ t y z ys zs s ds fo G, vs = [.ref t, .ref y, .ref z] ∧ Same G H ∧ Good s ∧ TermsAt A H t s ∧ Refs H y ys ∧ P2 (DayAt A G H) ys ds ∧ Refs H z zs ∧ P2 (fun a (p : Nat × List Out) => ResAt A G a p.1 p.2) zs fo ∧ fo.length = ds.length ∧
  (∀ d ∈ ds, DayOk d) ∧ ∀ b l H', Ex [] G H G H' → H b = Option.none → H l = Option.none → BookAt A H' b l ((ds.zip fo).foldl (fun k p => Vbfuam.behind k p.2.1 p.1.deals p.2.2) (Vbfuam.firstBook s)) → Q (.ref b) H'
theorem fold_len : ∀ (l : List (Day × Nat × List Out)) (k : Book), (l.foldl (fun k p => Vbfuam.behind k p.2.1 p.1.deals p.2.2) k).units.length = k.units.length
  | [], k => rfl
  | p :: l, k => by
    show (l.foldl _ (Vbfuam.behind k p.2.1 p.1.deals p.2.2)).units.length = _
    rw [fold_len l, behind_len]
theorem ok_book_behind (T : Txt K mg A) : CalF P w K mg base 4 "book_behind" ["terms", "days", "results"] (spBehind A) := by
  refine calF T.f_book_behind sc_book_behind (fun _ _ _ _ _ _ us hl => match us, hl with | [_, _, _], _ => rfl) (fun vs H Q E h => ?_) (fun f cdv A1 outer s0 H vs Q E hr h => ?_)
  · obtain ⟨t, y, z, ys, zs, s, ds, fo, G, rfl, _⟩ := h
    rfl
  · obtain ⟨t, y, z, ys, zs, s, ds, fo, G, rfl, sg, g, ht, hy, py, hz, pz, hlen, dok, k⟩ := h
    refine ⟨_, (pss_cons (ps_set (i := 3) sc_book_behind.nd rfl (Or.inl rfl) (pe_fn (ok_first_book T) (hr.mono (by decide)) rfl (pa_cons (pv 0) pa_nil)))
      (pss_cons (ps_for PassesOwn.never rfl (pi_zip rfl T.b_zip (pa_cons (pv 1) (pa_cons (pv 2) pa_nil))) (pg_tup rfl (pgs_cons (pg_name (i := 4) sc_book_behind.nd rfl (Or.inl rfl)) (pgs_cons (pg_name (i := 5) sc_book_behind.nd rfl (Or.inl rfl)) pgs_nil)))
      (pss_one (ps_expr (pe_md (ok_Book_go_past T) (hr.mono (by decide)) (pv 3) (pa_cons (pe_fld (pv 4) rfl) (pa_cons (pv 5) pa_nil))))))
      (pss_one (ps_ret (pv 3))))), ?_⟩
    refine ⟨_, rfl, t, s, G, rfl, sg, ht, fun b l H1 hb hl e1 hB => ?_⟩
    refine ⟨_, rfl, _, rfl, y, z, _, _, rfl, SqL.of (e1.keep0 hy), SqL.of (e1.keep0 hz),
      for_it (J := Itz K y z) (n := ds.length) (fun i σ H' => ∃ v4 v5, σ = [some (.ref t), some (.ref y), some (.ref z), some (.ref b), v4, v5] ∧ Ex [] G H G H' ∧
        BookAt A H' b l (((ds.zip fo).take i).foldl (fun k p => Vbfuam.behind k p.2.1 p.1.deals p.2.2) (Vbfuam.firstBook s))) ⟨Option.none, Option.none, rfl, e1, hB⟩ ?_ ?_ ?_ ?_⟩
    · rintro i σ H' hi ⟨v4, v5, rfl, e, _⟩
      have h1 := py.len
      have h2 := pz.len
      exact ⟨_, _, _, _, SqL.of (e.keep0 hy), SqL.of (e.keep0 hz), get_refs (List.getElem?_eq_getElem (show i < ys.length by omega)), get_refs (List.getElem?_eq_getElem (show i < zs.length by omega))⟩
    · rintro σ H' ⟨v4, v5, rfl, e, _⟩
      have h1 := py.len
      exact ⟨_, _, SqL.of (e.keep0 hy), SqL.of (e.keep0 hz), .inl (by rw [List.length_map]; omega)⟩
    · rintro i σ H' x H'' hi ⟨v4, v5, rfl, e, hB'⟩ ⟨tp, x', y', rfl, htp, rfl, hx', hy'⟩
      obtain ⟨ay, hay, rfl⟩ := refs_get (hx' _ (SqL.of (e.keep0 hy)))
      obtain ⟨az, haz, rfl⟩ := refs_get (hy' _ (SqL.of (e.keep0 hz)))
      obtain ⟨d, hd, yq, yl, yr, yp, yst, ⟨dy, hd1⟩, hd2, hd3, hd4⟩ := py.right hay
      obtain ⟨fo1, hfo, hres⟩ := pz.right haz
      have e2 : Ex [] G H' G (upd H' tp (.tup [.ref ay, .ref az])) := Ex.new e.gh htp
      have dk := dok d (List.mem_of_getElem? hd)
      have hBt := hB'.mono e2.same0
      obtain ⟨⟨db, hb2⟩, hl2⟩ := id hBt
      refine ⟨tp, _, rfl, SqT.of upd_same, rfl, _, _, rfl, _, _, rfl, rfl, ?_⟩
      refine ⟨_, rfl, b, db, _, rfl, hb2, rfl, _, rfl, ay, A.cDay, dy, _, _, rfl, e2.keep0 (e.keep0 hd1), T.cl_ClosedDay, T.na_ClosedDay_deals, rfl, _, rfl, b, l, yl, az, _, fo1.1, d.deals, fo1.2, G, rfl, e2.gh, sg.free hb, sg.free hl, hBt, hd3, hres, dk.deals.all, ?_, fun H3 e3 hB3 => ?_⟩
      · rw [fold_len]
        exact g.seed
      · refine ⟨_, _, rfl, ((e.trans0 e2).trans e3).drop (by simp [hb, hl]), ?_⟩
        rw [foldl_take _ _ (zip_get hd hfo)]
        exact hB3
    · rintro σ H' ⟨v4, v5, rfl, e, hB'⟩
      refine ⟨_, rfl, ?_⟩
      have hzl : (ds.zip fo).length = ds.length := by
        rw [List.length_zip]
        omega
      rw [← hzl, List.take_length] at hB'
      exact k b l H' e hb hl hB'
def spHistory (A : Ad) : Sp := fun vs H Q _ => ∃ t y c ys s G, vs = [.ref t, .ref y, .ref c] ∧ Same G H ∧ Good s ∧ TermsAt A H t s ∧ Refs H y ys ∧ P2 (DayAt A G H) ys s.days ∧ FixesAt H c s.fixes ∧
  ∀ h hs G' H', Ex [] G H G' H' → H h = Option.none → Refs H' h hs → P2 (RightAt A G') hs (Vbfuam.rights s) → Q (.ref h) H'
theorem ok_right_history (T : Txt K mg A) : CalF P w K mg base 6 "right_history" ["terms", "days", "corrections"] (spHistory A) := by
  refine calF T.f_right_history sc_right_history (fun _ _ _ _ _ _ us hl => match us, hl with | [_, _, _], _ => rfl) (fun vs H Q E h => ?_) (fun f cdv A1 outer s0 H vs Q E hr h => ?_)
  · obtain ⟨t, y, c, ys, s, G, rfl, _⟩ := h
    rfl
  · obtain ⟨t, y, c, ys, s, G, rfl, sg, g, ht, hy, py, ⟨kvs, hc, fr⟩, k⟩ := h
    refine ⟨_, (pss_cons (ps_set (i := 3) sc_right_history.nd rfl (Or.inl rfl) (pe_fn (ok_first_book T) (hr.mono (by decide)) rfl (pa_cons (pv 0) pa_nil)))
      (pss_cons (ps_set (i := 4) sc_right_history.nd rfl (Or.inl rfl) (pe_lst pa_nil))
      (pss_cons (ps_for PassesOwn.never rfl (pi_enumS rfl T.b_enumerate (pa_cons (pv 1) pa_nil) (pk_cons pe_int pk_nil)) (pg_tup rfl (pgs_cons (pg_name (i := 5) sc_right_history.nd rfl (Or.inl rfl)) (pgs_cons (pg_name (i := 6) sc_right_history.nd rfl (Or.inl rfl)) pgs_nil)))
      (pss_cons (ps_set (i := 7) sc_right_history.nd rfl (Or.inl rfl) (pe_fn (ok_right_day T) (hr.mono (by decide)) rfl (pa_cons (pv 0) (pa_cons (pv 3) (pa_cons (pv 6) (pa_cons (pe_fn (ok_right_quotes T) (hr.mono (by decide)) rfl (pa_cons (pe_fld (pv 6) rfl) (pa_cons (pv 5) (pa_cons (pv 2) pa_nil)))) pa_nil))))))
      (pss_cons (ps_expr (pe_md (ok_Book_go_past T) (hr.mono (by decide)) (pv 3) (pa_cons (pe_fld (pv 6) rfl) (pa_cons (pe_fld (pv 7) rfl) pa_nil))))
      (pss_one (ps_expr (pe_bm PySem.F.plainAttrs_list PySem.F.slot_list_append PySem.F.type_list_append mt_append (pv 4) (pa_cons (pv 7) pa_nil)))))))
      (pss_one (ps_ret (pv 4)))))), ?_⟩
    refine ⟨_, rfl, t, s, G, rfl, sg, ht, fun b l H1 hb hl e1 hB => ?_⟩
    refine ⟨(by show 0 ≤ sizeLine; decide), fun h hh => ?_⟩
    have e2 : Ex [] G H1 G (upd H1 h (.lst [])) := Ex.new e1.gh hh
    have hh0 : H h = Option.none := e1.freeH hh
    refine ⟨_, rfl, y, _, 1, rfl, rfl, rfl, SqL.of (e2.keep0 (e1.keep0 hy)),
      for_it (J := Ites K 1 y) (n := s.days.length) (fun i σ H' => ∃ v5 v6 v7 G' hs, σ = [some (.ref t), some (.ref y), some (.ref c), some (.ref b), some (.ref h), v5, v6, v7] ∧ Ex [] G H G' H' ∧
        G' b = Option.none ∧ G' l = Option.none ∧ G' h = Option.none ∧ BookAt A H' b l (bookTo s i) ∧ Refs H' h hs ∧ P2 (RightAt A G') hs (rightsTo s i))
        ⟨Option.none, Option.none, Option.none, G, [], rfl, e1.trans0 e2, sg.free hb, sg.free hl, sg.free hh0, hB.mono e2.same0, upd_same, .nil⟩ ?_ ?_ ?_ ?_⟩
    · rintro i σ H' hi ⟨v5, v6, v7, G', hs, rfl, e, _⟩
      have h1 := py.len
      exact ⟨_, _, SqL.of (e.keep0 hy), get_refs (List.getElem?_eq_getElem (show i < ys.length by omega))⟩
    · rintro σ H' ⟨v5, v6, v7, G', hs, rfl, e, _⟩
      have h1 := py.len
      exact ⟨_, SqL.of (e.keep0 hy), by rw [List.length_map]; omega⟩
    · rintro i σ H' x H'' hi ⟨v5, v6, v7, G', hs, rfl, e, gb, gl, gh, hB', hH, pr⟩ ⟨tp, x', rfl, htp, rfl, hx'⟩
      obtain ⟨ay, hay, rfl⟩ := refs_get (hx' _ (SqL.of (e.keep0 hy)))
      obtain ⟨d, hd, hda⟩ := py.right hay
      have dk := g.dayAt hd
      have few := g.days
      have ei : (1 : Int) + ((i : Nat) : Int) = ((i + 1 : Nat) : Int) := by omega
      have e3 : Ex [] G' H' G' (upd H' tp (.tup [.int (1 + (i : Nat)), .ref ay])) := Ex.new e.gh htp
      have e4 := e.trans0 e3
      have hda4 : DayAt A G' (upd H' tp (.tup [.int (1 + (i : Nat)), .ref ay])) ay d := hda.mono e4.gg (fun o q => e4.keep0 q)
      obtain ⟨yq, yl, yr, yp, yst, ⟨dy, hd1⟩, hd2, hd3, hd4⟩ := id hda4
      refine ⟨tp, _, rfl, SqT.of upd_same, rfl, _, _, rfl, _, _, rfl, rfl, ?_⟩
      refine ⟨_, rfl, _, rfl, _, rfl, _, rfl, ay, A.cDay, dy, _, _, rfl, hd1, T.cl_ClosedDay, T.na_ClosedDay_quotes, rfl, _, rfl, _, rfl, yq, c, i + 1, d.quotes, s.fixes, G', (by rw [ei]; rfl), e4.gh, e4.gh _ _ hd2, dk.quotes.len, ⟨kvs, e4.keep0 hc, fr⟩, fun q H5 e5 hq0 hq5 => ?_⟩
      have hda5 : DayAt A G' H5 ay d := hda4.mono e5.gg (fun o q => e5.keep0 q)
      have hB5 := (hB'.mono e3.same0).mono e5.same0
      refine ⟨t, b, l, ay, q, s, bookTo s i, d, i + 1, i, G', rfl, e5.gh, g, (ht.mono e4.same0).mono e5.same0, hB5, g.bookTo i (by omega), by omega, hda5, dk, hq5, fun r G6 H6 e6 hr6 hra => ?_⟩
      have hB6 := hB5.mono e6.same0
      obtain ⟨⟨db, hb6⟩, hl6⟩ := id hB6
      have gb6 : G6 b = Option.none := by
        obtain ⟨⟨db5, hb5⟩, hl5⟩ := hB5
        exact e6.apart hb5 gb (by simp)
      have gl6 : G6 l = Option.none := by
        obtain ⟨⟨db5, hb5⟩, hl5⟩ := hB5
        exact e6.apart hl5 gl (by simp)
      have hH5 := e5.keep0 (e3.keep0 hH)
      have gh6 : G6 h = Option.none := e6.apart hH5 gh (by simp)
      have hH6 := e6.keep0 hH5
      obtain ⟨rc, ff, rp, ⟨dxr, hr1⟩, hr2, hr3⟩ := id hra
      refine ⟨_, rfl, b, db, _, rfl, hb6, rfl, _, rfl, ay, A.cDay, dy, _, _, rfl, e6.keep0 (e5.keep0 hd1), T.cl_ClosedDay, T.na_ClosedDay_deals, rfl, _, rfl, r, A.cRight, dxr, _, _, rfl, e6.gh _ _ hr1, T.cl_RightDay, T.na_RightDay_result, rfl,
        b, l, yl, rp, bookTo s i, (Vbfuam.judged s (i + 1) d (bookTo s i)).fee, d.deals, (Vbfuam.judged s (i + 1) d (bookTo s i)).outs, G6, rfl, e6.gh, gb6, gl6, hB6, (hd3.mono e5.gg).mono e6.gg, hr3, dk.deals.all, (g.bookTo i (by omega)).len, fun H7 e7 hB7 => ?_⟩
      have hhb : h ≠ b := ne_of hH6 hb6 (by intro z; cases z)
      have hhl : h ≠ l := (ne_of_none hB.2 hh).symm
      have hH7 := e7.keep hH6 (by simp [hhb, hhl])
      refine ⟨_, rfl, .inl ⟨rfl, _, SqL.of hH7⟩, _, rfl, h, _, _, rfl, rfl, hH7, ?_, ?_⟩
      · have h1 := pr.len
        have h2 : (rightsTo s i).length ≤ 60 := by
          unfold rightsTo
          rw [rightFrom_len, List.length_take]
          omega
        rw [List.length_map]
        exact Nat.lt_of_le_of_lt (show _ ≤ 60 by omega) (by decide)
      · have gh7 : G6 h = Option.none := gh6
        refine ⟨_, _, _, G6, hs ++ [r], rfl, ?_, gb6, gl6, gh6, ?_, ?_, ?_⟩
        · exact (((e4.trans0 e5).trans0 e6).trans (e7.trans (Ex.put e7.gh gh7 (some_ne hH7)))).drop (by simp [hb, hl, hh0])
        · rw [bookTo_succ hd]
          exact ⟨hB7.1.imp fun dx z => by rw [upd_ne hhb.symm]; exact z, (upd_ne hhl.symm).trans hB7.2⟩
        · show upd _ _ _ _ = _
          rw [upd_same, List.map_append]
          rfl
        · rw [rightsTo_succ hd]
          exact (pr.imp fun _ _ z => (z.mono e6.gg)).snoc hra
    · rintro σ H' ⟨v5, v6, v7, G', hs, rfl, e, gb, gl, gh, hB', hH, pr⟩
      rw [rightsTo_all] at pr
      exact ⟨_, rfl, k h hs G' H' e hh0 hH pr⟩
end
end My
set_option Elab.async false
set_option linter.all false
set_option maxRecDepth 100000
set_option maxHeartbeats 2000000
namespace My
open PySem PySem.Spec PyProof.Rows L2
open Vbfuam (State Deal Out Day Fix Book Right)
theorem zip_map_fold {β : Type} (f : Day → β) (g : Book → Day × β → Book) : ∀ (l : List Day) (k : Book), (l.zip (l.map f)).foldl g k = l.foldl (fun k d => g k (d, f d)) k
  | [], _ => rfl
  | d :: l, k => by
    show (l.zip (l.map f)).foldl g (g k (d, f d)) = _
    rw [zip_map_fold f g l]
    rfl
theorem filter_take {α : Type} (p : α → Bool) {l : List α} {i : Nat} {x : α} (h : l[i]? = some x) : (l.take (i + 1)).filter p = (l.take i).filter p ++ (if p x = true then [x] else []) := by
  rw [take_snoc h, List.filter_append, List.filter_cons, List.filter_nil]
theorem natsum_cast : ∀ l : List Nat, (l.map fun (n : Nat) => (n : Int)).sum = ((Vbfuam.nsum l : Nat) : Int)
  | [] => rfl
  | a :: l => by
    have ih := natsum_cast l
    show (a : Int) + (l.map fun (n : Nat) => (n : Int)).sum = ((a + Vbfuam.nsum l : Nat) : Int)
    rw [ih, Int.natCast_add]
section
variable {P : Program} {w : World} {K : PySem.W.Frag} {mg : Str → Option Value} {base : Heap} {A : Ad}
def spAddOwed (A : Ad) : Sp := fun vs H Q _ => ∃ o y r xs d rr G, vs = [.ref o, .ref y, .ref r] ∧ Same G H ∧ G o = Option.none ∧ Ints H o xs ∧ xs.length = 10 ∧ DayAt A G H y d ∧ RightAt A G r rr ∧ DealsOk d.deals ∧
  ∀ H', Ex [o] G H G H' → Ints H' o (oweDay xs (d, rr)) → Q .non H'
theorem ok_add_owed (T : Txt K mg A) : CalF P w K mg base 1 "add_owed" ["owed", "day", "right"] (spAddOwed A) := by
  refine calF T.f_add_owed sc_add_owed (fun _ _ _ _ _ _ us hl => match us, hl with | [_, _, _], _ => rfl) (fun vs H Q E h => ?_) (fun f cdv A1 outer s0 H vs Q E hr h => ?_)
  · obtain ⟨o, y, r, xs, d, rr, G, rfl, _⟩ := h
    rfl
  · obtain ⟨o, y, r, xs, d, rr, G, rfl, sg, go, ho, hlen, ⟨yq, yl, yr, yp, yst, ⟨dy, hy⟩, y1, ⟨as, hyl, pd⟩, y3, y4, ⟨ol1, ⟨dst, hst⟩, os1, hol1, po1⟩⟩, ⟨rc, ff, rp, ⟨dxr, hr1⟩, hr2, ⟨ol2, ⟨drp, hrp⟩, os2, hol2, po2⟩⟩, dok, k⟩ := h
    refine ⟨_, (pss_one (ps_for PassesOwn.never rfl (pi_zip3 rfl T.b_zip (pa_cons (pe_fld (pv 1) rfl) (pa_cons (pe_fld (pe_fld (pv 1) rfl) rfl) (pa_cons (pe_fld (pe_fld (pv 2) rfl) rfl) pa_nil)))) (pg_tup rfl (pgs_cons (pg_name (i := 3) sc_add_owed.nd rfl (Or.inl rfl)) (pgs_cons (pg_name (i := 4) sc_add_owed.nd rfl (Or.inl rfl)) (pgs_cons (pg_name (i := 5) sc_add_owed.nd rfl (Or.inl rfl)) pgs_nil))))
      (pss_one (ps_augS (pv 0) (pe_op op_sub (pe_fld (pv 3) rfl) pe_int) get_list (pe_op op_sub (pe_fld (pv 4) rfl) (pe_fld (pv 5) rfl)) ip_add set_list)))), ?_⟩
    have l0 := pd.len
    have l1 := po1.len
    have l2 := po2.len
    refine ⟨_, rfl, y, A.cDay, dy, _, _, rfl, hy, T.cl_ClosedDay, T.na_ClosedDay_deals, rfl, _, rfl, y, A.cDay, dy, _, _, rfl, hy, T.cl_ClosedDay, T.na_ClosedDay_standing, rfl, yst, A.cRes, dst, _, _, rfl, sg _ _ hst, T.cl_DayResult, T.na_DayResult_outcomes, rfl,
      _, rfl, r, A.cRight, dxr, _, _, rfl, sg _ _ hr1, T.cl_RightDay, T.na_RightDay_result, rfl, rp, A.cRes, drp, _, _, rfl, sg _ _ hrp, T.cl_DayResult, T.na_DayResult_outcomes, rfl, yl, ol1, ol2, _, _, _, rfl, SqL.of (sg _ _ hyl), SqL.of (sg _ _ hol1), SqL.of (sg _ _ hol2),
      for_it (J := Itz3 K yl ol1 ol2) (n := (d.deals.zip (d.outs.zip rr.outs)).length) (fun i σ H' => ∃ v3 v4 v5, σ = [some (.ref o), some (.ref y), some (.ref r), v3, v4, v5] ∧ Ex [o] G H G H' ∧ Ints H' o (((d.deals.zip (d.outs.zip rr.outs)).take i).foldl owe1 xs))
      ⟨Option.none, Option.none, Option.none, rfl, (Ex.refl sg).weak (by simp), ho⟩ ?_ ?_ ?_ ?_⟩
    · rintro i σ H' hi ⟨v3, v4, v5, rfl, e, _⟩
      rw [List.length_zip, List.length_zip] at hi
      exact ⟨_, _, _, _, _, _, SqL.of (e.gh _ _ hyl), SqL.of (e.gh _ _ hol1), SqL.of (e.gh _ _ hol2), get_refs (List.getElem?_eq_getElem (show i < as.length by omega)), get_refs (List.getElem?_eq_getElem (show i < os1.length by omega)), get_refs (List.getElem?_eq_getElem (show i < os2.length by omega))⟩
    · rintro σ H' ⟨v3, v4, v5, rfl, e, _⟩
      refine ⟨_, _, _, SqL.of (e.gh _ _ hyl), SqL.of (e.gh _ _ hol1), SqL.of (e.gh _ _ hol2), ?_⟩
      rw [List.length_zip, List.length_zip, List.length_map, List.length_map, List.length_map]
      omega
    · rintro i σ H' x H'' hi ⟨v3, v4, v5, rfl, e, hO⟩ ⟨tp, x', y', z', rfl, htp, rfl, hx', hy', hz'⟩
      obtain ⟨ad, had, rfl⟩ := refs_get (hx' _ (SqL.of (e.gh _ _ hyl)))
      obtain ⟨a1, ha1, rfl⟩ := refs_get (hy' _ (SqL.of (e.gh _ _ hol1)))
      obtain ⟨a2, ha2, rfl⟩ := refs_get (hz' _ (SqL.of (e.gh _ _ hol2)))
      obtain ⟨dl, hdl, ddl, hd2⟩ := pd.right had
      obtain ⟨o1, ho1, dd1, ho1'⟩ := po1.right ha1
      obtain ⟨o2, ho2, dd2, ho2'⟩ := po2.right ha2
      have dk := dok.all dl (List.mem_of_getElem? hdl)
      have q1 := dk.h1
      have q2 := dk.h10
      have e2 : Ex [] G H' G (upd H' tp (.tup [.ref ad, .ref a1, .ref a2])) := Ex.new e.gh htp
      have hOt := e2.keep0 hO
      have hul : (((d.deals.zip (d.outs.zip rr.outs)).take i).foldl owe1 xs).length = 10 := by
        rw [owe_len]
        exact hlen
      refine ⟨tp, _, rfl, SqT.of upd_same, rfl, _, _, rfl, _, _, rfl, _, _, rfl, rfl, ?_⟩
      refine ⟨_, rfl, _, rfl, ad, A.cDeal, ddl, _, _, rfl, e2.gh _ _ hd2, T.cl_Deal, T.na_Deal_holder, rfl, _, _, rfl, rfl,
        o, _, dl.holder - 1, _, rfl, congrArg V.int (show (dl.holder : Int) - 1 = ((dl.holder - 1 : Nat) : Int) by omega), SqL.of hOt, (by rw [List.getElem?_map, getD_some (by omega)]; rfl),
        _, rfl, a1, A.cOut, dd1, _, _, rfl, e2.gh _ _ ho1', T.cl_Outcome, T.na_Outcome_money, rfl, _, rfl, a2, A.cOut, dd2, _, _, rfl, e2.gh _ _ ho2', T.cl_Outcome, T.na_Outcome_money, rfl, _, _, rfl, rfl, _, _, rfl, rfl,
        o, _, _, dl.holder - 1, rfl, rfl, hOt, (by rw [List.length_map, show (dl.holder : Int) - 1 = ((dl.holder - 1 : Nat) : Int) by omega]; exact ixN_nat (by omega)), ?_⟩
      refine ⟨_, _, _, rfl, ((e.trans e2).trans (Ex.put e2.gh go (some_ne hOt))).weak (by simp), ?_⟩
      rw [foldl_take _ _ (zip_get hdl (zip_get ho1 ho2))]
      show upd _ _ _ _ = _
      rw [upd_same, map_set_int]
      rfl
    · rintro σ H' ⟨v3, v4, v5, rfl, e, hO⟩
      rw [List.take_length] at hO
      exact k H' e hO
def spOwedTo (A : Ad) : Sp := fun vs H Q _ => ∃ y h ys hs ds rs G, vs = [.ref y, .ref h] ∧ Same G H ∧ Refs H y ys ∧ P2 (DayAt A G H) ys ds ∧ Refs H h hs ∧ P2 (RightAt A G) hs rs ∧ rs.length = ds.length ∧ (∀ d ∈ ds, DayOk d) ∧
  ∀ o H', Ex [] G H G H' → H o = Option.none → Ints H' o ((ds.zip rs).foldl oweDay (List.replicate 10 0)) → Q (.ref o) H'
theorem ok_owed_to_holders (T : Txt K mg A) : CalF P w K mg base 2 "owed_to_holders" ["days", "history"] (spOwedTo A) := by
  refine calF T.f_owed_to_holders sc_owed_to_holders (fun _ _ _ _ _ _ us hl => match us, hl with | [_, _], _ => rfl) (fun vs H Q E h => ?_) (fun f cdv A1 outer s0 H vs Q E hr h => ?_)
  · obtain ⟨y, h, ys, hs, ds, rs, G, rfl, _⟩ := h
    rfl
  · obtain ⟨y, h, ys, hs, ds, rs, G, rfl, sg, hy, py, hh, ph, hlen, dok, k⟩ := h
    refine ⟨_, (pss_cons (ps_set (i := 2) sc_owed_to_holders.nd rfl (Or.inl rfl) (pe_op op_rep (pe_lst (pa_cons pe_int pa_nil)) (pe_gi T.g_HOLDERS rfl)))
      (pss_cons (ps_for PassesOwn.never rfl (pi_zip rfl T.b_zip (pa_cons (pv 0) (pa_cons (pv 1) pa_nil))) (pg_tup rfl (pgs_cons (pg_name (i := 3) sc_owed_to_holders.nd rfl (Or.inl rfl)) (pgs_cons (pg_name (i := 4) sc_owed_to_holders.nd rfl (Or.inl rfl)) pgs_nil)))
      (pss_one (ps_expr (pe_fn (ok_add_owed T) (hr.mono (by decide)) rfl (pa_cons (pv 2) (pa_cons (pv 3) (pa_cons (pv 4) pa_nil)))))))
      (pss_one (ps_ret (pv 2))))), ?_⟩
    have l0 := py.len
    have l1 := ph.len
    refine ⟨(by show 1 ≤ sizeLine; decide), fun z hz => ⟨z, 10, [.int 0], rfl, rfl, upd_same, by decide, by decide, (by show 1 * 10 ≤ sizeLine; decide), fun o ho => ?_⟩⟩
    have e1 : Ex [] G H G (upd H z (.lst [.int 0])) := Ex.new sg hz
    have e2 : Ex [] G (upd H z (.lst [.int 0])) G (upd (upd H z (.lst [.int 0])) o (.lst ((List.replicate 10 (0 : Int)).map V.int))) := Ex.new e1.gh ho
    have ho0 := e1.freeH ho
    have e3 := e1.trans0 e2
    refine ⟨_, rfl, _, rfl, y, h, _, _, rfl, SqL.of (e3.keep0 hy), SqL.of (e3.keep0 hh),
      for_it (J := Itz K y h) (n := ds.length) (fun i σ H' => ∃ v3 v4, σ = [some (.ref y), some (.ref h), some (.ref o), v3, v4] ∧ Ex [] G H G H' ∧ Ints H' o (((ds.zip rs).take i).foldl oweDay (List.replicate 10 0)))
      ⟨Option.none, Option.none, rfl, e3, upd_same⟩ ?_ ?_ ?_ ?_⟩
    · rintro i σ H' hi ⟨v3, v4, rfl, e, _⟩
      exact ⟨_, _, _, _, SqL.of (e.keep0 hy), SqL.of (e.keep0 hh), get_refs (List.getElem?_eq_getElem (show i < ys.length by omega)), get_refs (List.getElem?_eq_getElem (show i < hs.length by omega))⟩
    · rintro σ H' ⟨v3, v4, rfl, e, _⟩
      exact ⟨_, _, SqL.of (e.keep0 hy), SqL.of (e.keep0 hh), .inl (by rw [List.length_map]; omega)⟩
    · rintro i σ H' x H'' hi ⟨v3, v4, rfl, e, hO⟩ ⟨tp, x', y', rfl, htp, rfl, hx', hy'⟩
      obtain ⟨ay, hay, rfl⟩ := refs_get (hx' _ (SqL.of (e.keep0 hy)))
      obtain ⟨ar, har, rfl⟩ := refs_get (hy' _ (SqL.of (e.keep0 hh)))
      obtain ⟨d, hd, hda⟩ := py.right hay
      obtain ⟨r, hrr, hra⟩ := ph.right har
      have e4 : Ex [] G H' G (upd H' tp (.tup [.ref ay, .ref ar])) := Ex.new e.gh htp
      have e5 := e.trans0 e4
      refine ⟨tp, _, rfl, SqT.of upd_same, rfl, _, _, rfl, _, _, rfl, rfl, ?_⟩
      refine ⟨_, rfl, _, rfl, _, rfl, o, ay, ar, _, d, r, G, rfl, e4.gh, sg.free ho0, e4.keep0 hO, ?_, hda.mono e5.gg (fun o q => e5.keep0 q), hra, (dok d (List.mem_of_getElem? hd)).deals, fun H6 e6 hO6 => ?_⟩
      · rw [oweDays_len, List.length_replicate]
      · refine ⟨_, _, rfl, (e5.trans e6).drop (by simp [ho0]), ?_⟩
        rw [foldl_take _ _ (zip_get hd hrr)]
        exact hO6
    · rintro σ H' ⟨v3, v4, rfl, e, hO⟩
      have hzl : (ds.zip rs).length = ds.length := by
        rw [List.length_zip]
        omega
      rw [← hzl, List.take_length] at hO
      exact ⟨_, rfl, k o H' e ho0 hO⟩
def spStanding (A : Ad) : Sp := fun vs H Q _ => ∃ p t q d y c b ys s G, vs = [.ref p] ∧ Same G H ∧ FundIs A G H p t q d y c b ys s ∧ Good s ∧ ∀ bk l H', Ex [] G H G H' → H bk = Option.none → H l = Option.none → BookAt A H' bk l (Vbfuam.standing s) → Q (.ref bk) H'
theorem ok_Fund_standing_book (T : Txt K mg A) : CalM P w K mg base 5 A.cFund "standing_book" ["self"] (spStanding A) := by
  refine calM T.f_Fund_standing_book T.cl_Fund sc_Fund_standing_book (fun _ _ _ _ _ _ us hl => match us, hl with | [_], _ => rfl) (fun vs H Q E h => ?_) (fun f cdv A1 outer s0 H vs Q E hr h => ?_)
  · obtain ⟨p, t, q, d, y, c, b, ys, s, G, rfl, _⟩ := h
    rfl
  · obtain ⟨p, t, q, d, y, c, b, ys, s, G, rfl, sg, F, g, k⟩ := h
    obtain ⟨dp, hp⟩ := F.ins
    refine ⟨_, (pss_one (ps_ret (pe_fn (ok_book_behind T) (hr.mono (by decide)) rfl (pa_cons (pe_fld (pv 0) rfl) (pa_cons (pe_fld (pv 0) rfl) (pa_cons (pe_lc (te := (tFld K (tVar 1) "standing")) rfl sc_Fund_standing_book.nd (pi_list (pe_fld (pv 0) rfl)) (blkOk_by (own := [("day", 1)]) rfl) (fun _ _ _ _ _ => (pg_name (i := 1) sc_Fund_standing_book.nd rfl (Or.inl rfl) (Or.inr rfl))) (fun _ _ _ _ _ => pts_nil) (fun _ _ _ _ _ => (pe_fld (pv 1) rfl))) pa_nil)))))), ?_⟩
    have l0 := F.days.len
    have few := g.days
    refine ⟨_, rfl, p, A.cFund, dp, _, _, rfl, hp, T.cl_Fund, T.na_Fund_terms, rfl, _, rfl, p, A.cFund, dp, _, _, rfl, hp, T.cl_Fund, T.na_Fund_days, rfl, _, rfl, p, A.cFund, dp, _, _, rfl, hp, T.cl_Fund, T.na_Fund_days, rfl, y, rfl, ⟨_, SqL.of F.list⟩,
      fun D hD => lc_list (K := K) (a := y) (xs := ys.map V.ref) (fun i H' => ∃ zs, Ex [] G H G H' ∧ Refs H' D zs ∧ P2 (fun a (x : Nat × List Out) => ResAt A G a x.1 x.2) zs ((s.days.take i).map fun x => (x.feeNow, x.outs))) ⟨[], Ex.new sg hD, upd_same, .nil⟩ ?_ ?_ ?_⟩
    · rintro i H' hi ⟨zs, e, _⟩
      exact SqL.of (e.keep0 F.list)
    · rintro i x H' hx ⟨zs, e, hD', pz⟩
      obtain ⟨a, ha, rfl⟩ := refs_get hx
      obtain ⟨x, hxd, yq, yl, yr, yp, yst, ⟨dy, hy1⟩, h1, h2, h3, h4, h5⟩ := F.days.right ha
      have hil : i < s.days.length := (List.getElem?_eq_some_iff.mp hxd).1
      refine ⟨rfl, ?_⟩
      refine ⟨_, rfl, a, A.cDay, dy, _, _, rfl, e.keep0 hy1, T.cl_ClosedDay, T.na_ClosedDay_standing, rfl, _, hD', ?_, zs ++ [yst], ?_, ?_, ?_⟩
      · have hp := pz.len
        rw [List.length_map, List.length_take] at hp
        rw [List.length_map]
        exact Nat.lt_of_le_of_lt (show _ ≤ 60 by omega) (by decide)
      · exact (e.trans (Ex.put e.gh (sg.free hD) (some_ne hD'))).drop (by simp [hD])
      · show upd _ _ _ _ = _
        rw [upd_same, List.map_append]
        rfl
      · rw [map_take _ hxd]
        exact P2.snoc (R := fun a (x : Nat × List Out) => ResAt A G a x.1 x.2) (a := yst) (b := (x.feeNow, x.outs)) h5 pz
    · rintro H' ⟨zs, e, hD', pz⟩
      rw [List.length_map, l0, List.take_length] at pz
      refine ⟨t, y, D, ys, zs, s, s.days, _, G, rfl, e.gh, g, (F.terms.mono sg).mono e.same0, e.keep0 F.list, F.days.imp fun _ _ z => z.mono e.gg (fun o q => e.keep0 q), hD', pz, List.length_map _, g.day, fun bk l H2 e2 hb hl hB => ?_⟩
      refine k bk l H2 (e.trans0 e2) (e.freeH hb) (e.freeH hl) ?_
      rw [zip_map_fold] at hB
      exact hB
def spHistM (A : Ad) : Sp := fun vs H Q _ => ∃ p t q d y c b ys s G, vs = [.ref p] ∧ Same G H ∧ FundIs A G H p t q d y c b ys s ∧ Good s ∧ ∀ h hs G' H', Ex [] G H G' H' → H h = Option.none → Refs H' h hs → P2 (RightAt A G') hs (Vbfuam.rights s) → Q (.ref h) H'
theorem ok_Fund_history (T : Txt K mg A) : CalM P w K mg base 7 A.cFund "history" ["self"] (spHistM A) := by
  refine calM T.f_Fund_history T.cl_Fund sc_Fund_history (fun _ _ _ _ _ _ us hl => match us, hl with | [_], _ => rfl) (fun vs H Q E h => ?_) (fun f cdv A1 outer s0 H vs Q E hr h => ?_)
  · obtain ⟨p, t, q, d, y, c, b, ys, s, G, rfl, _⟩ := h
    rfl
  · obtain ⟨p, t, q, d, y, c, b, ys, s, G, rfl, sg, F, g, k⟩ := h
    obtain ⟨dp, hp⟩ := F.ins
    refine ⟨_, (pss_one (ps_ret (pe_fn (ok_right_history T) (hr.mono (by decide)) rfl (pa_cons (pe_fld (pv 0) rfl) (pa_cons (pe_fld (pv 0) rfl) (pa_cons (pe_fld (pv 0) rfl) pa_nil)))))), ?_⟩
    exact ⟨_, rfl, p, A.cFund, dp, _, _, rfl, hp, T.cl_Fund, T.na_Fund_terms, rfl, _, rfl, p, A.cFund, dp, _, _, rfl, hp, T.cl_Fund, T.na_Fund_days, rfl, _, rfl, p, A.cFund, dp, _, _, rfl, hp, T.cl_Fund, T.na_Fund_corrections, rfl,
      t, y, c, ys, s, G, rfl, sg, g, F.terms.mono sg, F.list, F.days, F.fixes, k⟩
def spAsked (A : Ad) : Sp := fun vs H Q _ => ∃ p t q d y c b ys s h G, vs = [.ref p, nV h] ∧ Same G H ∧ FundIs A G H p t q d y c b ys s ∧ Good s ∧ ∀ H', Ex [] G H G H' → Q (.int ((Vbfuam.asked s h : Nat) : Int)) H'
theorem ok_Fund_asked_back (T : Txt K mg A) : CalM P w K mg base 1 A.cFund "asked_back" ["self", "holder"] (spAsked A) := by
  refine calM T.f_Fund_asked_back T.cl_Fund sc_Fund_asked_back (fun _ _ _ _ _ _ us hl => match us, hl with | [_, _], _ => rfl) (fun vs H Q E h => ?_) (fun f cdv A1 outer s0 H vs Q E hr h => ?_)
  · obtain ⟨p, t, q, d, y, c, b, ys, s, h, G, rfl, _⟩ := h
    rfl
  · obtain ⟨p, t, q, d, y, c, b, ys, s, h, G, rfl, sg, F, g, k⟩ := h
    obtain ⟨dp, hp⟩ := F.ins
    obtain ⟨as, hd, pd⟩ := F.deals
    refine ⟨_, (pss_one (ps_ret (pe_callB (cr_sum rfl) (by rfl) T.b_sum PyProof.Rows.boot_sum (pa_cons (pe_lc (tt := (tAnd (tTest (tOp rEq (tFld K (tVar 2) "kind") (tC (.int (1))))) (tTest (tOp rEq (tFld K (tVar 2) "holder") (tVar 1))))) (te := (tFld K (tVar 2) "amount")) rfl sc_Fund_asked_back.nd (pi_list (pe_fld (pv 0) rfl)) (blkOk_by (own := [("deal", 2)]) rfl) (fun _ _ _ _ _ => (pg_name (i := 2) sc_Fund_asked_back.nd rfl (Or.inl rfl) (Or.inr rfl))) (fun _ _ _ _ _ => (pts_one (PW.pt (pw_and (pt_cmpR op_eq (pe_fld (pv 2) rfl) (pe_gi T.g_UNITS_OUT rfl) (nomark _)) (pw_and1 (pt_cmpR op_eq (pe_fld (pv 2) rfl) (pv 1) (nomark _))))))) (fun _ _ _ _ _ => (pe_fld (pv 2) rfl))) pa_nil)))), ?_⟩
    have l0 := pd.len
    have few := g.deals.few
    refine ⟨_, rfl, p, A.cFund, dp, _, _, rfl, hp, T.cl_Fund, T.na_Fund_deals, rfl, d, rfl, ⟨_, SqL.of hd⟩,
      fun D hD => lc_list (K := K) (a := d) (xs := as.map V.ref) (fun i H' => Ex [] G H G H' ∧ H' D = some (.lst ((((s.deals.take i).filter fun x => x.holder == h && x.kind == 1).map fun (x : Deal) => x.amount).map fun (n : Nat) => V.int (n : Int)))) ⟨Ex.new sg hD, upd_same⟩ ?_ ?_ ?_⟩
    · rintro i H' hi ⟨e, _⟩
      exact SqL.of (e.keep0 hd)
    · rintro i x H' hx ⟨e, hD'⟩
      obtain ⟨a, ha, rfl⟩ := refs_get hx
      obtain ⟨x, hxd, dx, hxa⟩ := pd.right ha
      have hxa' := e.gh _ _ hxa
      refine ⟨rfl, ?_⟩
      have no : ¬ (x.holder == h && x.kind == 1) = true → Ex [] G H G H' ∧ H' D = some (.lst ((((s.deals.take (i + 1)).filter fun x => x.holder == h && x.kind == 1).map fun (x : Deal) => x.amount).map fun (n : Nat) => V.int (n : Int))) := fun z => by
        rw [filter_take _ hxd, if_neg z, List.append_nil]
        exact ⟨e, hD'⟩
      refine ⟨_, rfl, a, A.cDeal, dx, _, _, rfl, hxa', T.cl_Deal, T.na_Deal_kind, rfl, rfl, _, rfl, ite2 (fun hk => ?_) (fun hk => ?_)⟩
      · have hk1 : x.kind = 1 := by
          have z := V.int.inj (of_decide_eq_true hk : V.int (x.kind : Int) = V.int 1)
          omega
        refine ⟨_, rfl, a, A.cDeal, dx, _, _, rfl, hxa', T.cl_Deal, T.na_Deal_holder, rfl, _, rfl, rfl, _, rfl, ite2 (fun hh => ?_) (fun hh => ?_)⟩
        · have hh1 : x.holder = h := by
            have z := V.int.inj (of_decide_eq_true hh : V.int (x.holder : Int) = V.int (h : Int))
            omega
          refine ⟨_, rfl, a, A.cDeal, dx, _, _, rfl, hxa', T.cl_Deal, T.na_Deal_amount, rfl, _, hD', ?_, ?_, ?_⟩
          · rw [List.length_map, List.length_map]
            refine Nat.lt_of_le_of_lt (Nat.le_trans (List.length_filter_le _ _) (show _ ≤ 10 from ?_)) (by decide)
            rw [List.length_take]
            omega
          · exact (e.trans (Ex.put e.gh (sg.free hD) (some_ne hD'))).drop (by simp [hD])
          · rw [upd_same, filter_take _ hxd, if_pos (by rw [hh1, hk1]; simp), List.map_append, List.map_append]
            rfl
        · exact no (fun z => by
            rw [Bool.and_eq_true] at z
            have z1 : x.holder = h := eq_of_beq z.1
            exact hh (by rw [z1]; simp [nV]))
      · refine no (fun z => ?_)
        rw [Bool.and_eq_true] at z
        have z1 : x.kind = 1 := eq_of_beq z.2
        exact hk (by rw [z1]; simp [nV])
    · rintro H' ⟨e, hD'⟩
      rw [List.length_map, l0, List.take_length] at hD'
      have hD2 : H' D = some (.lst ((((s.deals.filter fun x => x.holder == h && x.kind == 1).map fun (x : Deal) => x.amount).map fun (n : Nat) => (n : Int)).map V.int)) := by
        rw [hD', List.map_map, List.map_map, List.map_map]
        rfl
      refine ⟨D, _, rfl, SqL.of hD2, ?_⟩
      rw [natsum_cast]
      exact k H' e
def spLeft (A : Ad) : Sp := fun vs H Q _ => ∃ p t q d y c b ys s h G, vs = [.ref p, nV h] ∧ Same G H ∧ FundIs A G H p t q d y c b ys s ∧ Good s ∧ 1 ≤ h ∧ h ≤ 10 ∧ ∀ H', Ex [] G H G H' → Q (.int ((Vbfuam.standing s).units.getD (h - 1) 0 - ((Vbfuam.asked s h : Nat) : Int))) H'
theorem FundIs.keep0 {G H G' H' : Hp} {p t q d y c b : Addr} {ys : List Addr} {s : State} (F : FundIs A G H p t q d y c b ys s) (e : Ex [] G H G' H') : FundIs A G' H' p t q d y c b ys s where
  ins := F.ins.mono e.same0
  terms := F.terms.mono e.gg
  quotes := e.keep0 F.quotes
  deals := let ⟨as, h1, h2⟩ := F.deals; ⟨as, e.keep0 h1, h2.imp fun _ _ z => z.mono e.gg⟩
  list := e.keep0 F.list
  days := F.days.imp fun _ _ z => z.mono e.gg (fun o q => e.keep0 q)
  fixes := let ⟨kvs, h1, h2⟩ := F.fixes; ⟨kvs, e.keep0 h1, h2⟩
  net := e.gg _ _ F.net
  gp := let ⟨_, h⟩ := F.ins; e.apart h F.gp (by simp)
  gq := e.apart F.quotes F.gq (by simp)
  gd := let ⟨as, h1, _⟩ := F.deals; e.apart h1 F.gd (by simp)
  gy := e.apart F.list F.gy (by simp)
  gc := let ⟨kvs, h1, _⟩ := F.fixes; e.apart h1 F.gc (by simp)
  gs := fun a ha => let ⟨_, _, _, _, _, _, _, ⟨_, h⟩, _⟩ := F.days.mem ha; e.apart h (F.gs a ha) (by simp)
  nd := F.nd
  qd := F.qd
  qy := F.qy
  dy := F.dy
  pys := F.pys
theorem ok_Fund_units_left (T : Txt K mg A) : CalM P w K mg base 6 A.cFund "units_left" ["self", "holder"] (spLeft A) := by
  refine calM T.f_Fund_units_left T.cl_Fund sc_Fund_units_left (fun _ _ _ _ _ _ us hl => match us, hl with | [_, _], _ => rfl) (fun vs H Q E h => ?_) (fun f cdv A1 outer s0 H vs Q E hr h => ?_)
  · obtain ⟨p, t, q, d, y, c, b, ys, s, h, G, rfl, _⟩ := h
    rfl
  · obtain ⟨p, t, q, d, y, c, b, ys, s, h, G, rfl, sg, F, g, h1, h2, k⟩ := h
    obtain ⟨dp, hp⟩ := F.ins
    refine ⟨_, (pss_one (ps_ret (pe_op op_sub (pe_md (ok_Book_units_of T) (hr.mono (by decide)) (pe_md0 (ok_Fund_standing_book T) (hr.mono (by decide)) (pv 0)) (pa_cons (pv 1) pa_nil)) (pe_md (ok_Fund_asked_back T) (hr.mono (by decide)) (pv 0) (pa_cons (pv 1) pa_nil))))), ?_⟩
    refine ⟨_, rfl, p, dp, _, rfl, hp, rfl, p, t, q, d, y, c, b, ys, s, G, rfl, sg, F, g, fun bk l H1 e1 hbk hl hB => ?_⟩
    obtain ⟨⟨db, hb1⟩, hl1⟩ := id hB
    have F1 := F.keep0 e1
    refine ⟨bk, db, _, rfl, hb1, rfl, _, rfl, bk, l, _, h, rfl, hB, h1, (by rw [g.standing.len]; exact h2), ?_⟩
    refine ⟨_, rfl, p, dp, _, rfl, e1.keep0 hp, rfl, _, rfl, p, t, q, d, y, c, b, ys, s, h, G, rfl, e1.gh, F1, g, fun H2 e2 => ⟨_, _, rfl, rfl, k H2 (e1.trans0 e2)⟩⟩
def spToday (A : Ad) : Sp := fun vs H Q _ => ∃ p t q d y c b ys s G, vs = [.ref p] ∧ Same G H ∧ FundIs A G H p t q d y c b ys s ∧ Good s ∧
  ∀ r G' H', Ex [] G H G' H' → RecAt A G' r (Vbfuam.gross s s.quotes (Vbfuam.standing s) - (Vbfuam.feeOf s (Vbfuam.gross s s.quotes (Vbfuam.standing s)) : Int)) (Vbfuam.isum (Vbfuam.standing s).units) (Vbfuam.feeOf s (Vbfuam.gross s s.quotes (Vbfuam.standing s))) → Q (.ref r) H'
theorem ok_Fund_reckon_today (T : Txt K mg A) : CalM P w K mg base 6 A.cFund "reckon_today" ["self"] (spToday A) := by
  refine calM T.f_Fund_reckon_today T.cl_Fund sc_Fund_reckon_today (fun _ _ _ _ _ _ us hl => match us, hl with | [_], _ => rfl) (fun vs H Q E h => ?_) (fun f cdv A1 outer s0 H vs Q E hr h => ?_)
  · obtain ⟨p, t, q, d, y, c, b, ys, s, G, rfl, _⟩ := h
    rfl
  · obtain ⟨p, t, q, d, y, c, b, ys, s, G, rfl, sg, F, g, k⟩ := h
    obtain ⟨dp, hp⟩ := F.ins
    refine ⟨_, (pss_one (ps_ret (pe_fn (ok_reckon T) (hr.mono (by decide)) rfl (pa_cons (pe_fld (pv 0) rfl) (pa_cons (pe_md0 (ok_Fund_standing_book T) (hr.mono (by decide)) (pv 0)) (pa_cons (pe_fld (pv 0) rfl) pa_nil)))))), ?_⟩
    refine ⟨_, rfl, p, A.cFund, dp, _, _, rfl, hp, T.cl_Fund, T.na_Fund_terms, rfl, _, rfl, p, dp, _, rfl, hp, rfl, p, t, q, d, y, c, b, ys, s, G, rfl, sg, F, g, fun bk l H1 e1 hbk hl hB => ?_⟩
    exact ⟨_, rfl, p, A.cFund, dp, _, _, rfl, e1.keep0 hp, T.cl_Fund, T.na_Fund_quotes, rfl, t, bk, l, q, s, _, s.quotes, G, rfl, e1.gh, (F.terms.mono sg).mono e1.same0, hB, e1.keep0 F.quotes, g.qlen, g.qty, g.rate, fun r G2 H2 e2 hr2 => k r G2 H2 (e1.trans0 e2) hr2⟩
end
end My
set_option Elab.async false
set_option linter.all false
set_option maxRecDepth 100000
set_option maxHeartbeats 2000000
namespace My
open PySem PySem.Spec PyProof.Rows L2
open Vbfuam (State Deal Out Day Fix Book Right)
theorem lt_put {f : Str} {v : V} {fs : Fs} {n : Nat} (h : fs.length < n) : (putF f v fs).length < n + 1 := by
  have := length_putF f v fs
  omega
section
variable {G H G' H' G'' H'' : Hp} {p : Addr} {o : HO}
theorem Ex.tr {M : List Addr} (a : Ex M G H G' H') (b : Ex M G' H' G'' H'') : Ex M G H G'' H'' := (a.trans b).weak (by simp)
theorem Ex.w0 {M : List Addr} (a : Ex [] G H G' H') : Ex M G H G' H' := a.weak (by simp)
end
section
variable {P : Program} {w : World} {K : PySem.W.Frag} {mg : Str → Option Value} {base : Heap} {A : Ad}
def anew (s : State) : State := { Vbfuam.start with cash := s.cash, rate := s.rate, limit := s.limit, qty := s.qty, seed := s.seed }
def spAnew (A : Ad) : Sp := fun vs H Q _ => ∃ p dx fs t s G, vs = [.ref p, .ref t] ∧ Same G H ∧ G p = Option.none ∧ H p = some (.ins A.cFund dx fs) ∧ (fs = [] ∨ ∃ a b c d e f, fs = fFund a b c d e f) ∧ TermsAt A G t s ∧
  ∀ q d y c b G' H', Ex [p] G H G' H' → H q = Option.none → H d = Option.none → H y = Option.none → H c = Option.none → FundIs A G' H' p t q d y c b [] (anew s) → Q .non H'
theorem ok_Fund_begin_anew (T : Txt K mg A) : CalM P w K mg base 1 A.cFund "begin_anew" ["self", "terms"] (spAnew A) := by
  refine calM T.f_Fund_begin_anew T.cl_Fund sc_Fund_begin_anew (fun _ _ _ _ _ _ us hl => match us, hl with | [_, _], _ => rfl) (fun vs H Q E h => ?_) (fun f cdv A1 outer s0 H vs Q E hr h => ?_)
  · obtain ⟨p, dx, fs, t, s, G, rfl, _⟩ := h
    rfl
  · obtain ⟨p, dx, fs, t, s, G, rfl, sg, gp, hp, hfs, ht, k⟩ := h
    refine ⟨_, (pss_cons (ps_fld (pv 0) (pv 1) rfl)
      (pss_cons (ps_fld (pv 0) (pe_op op_rep (pe_lst (pa_cons pe_int pa_nil)) (pe_gi T.g_THINGS rfl)) rfl)
      (pss_cons (ps_fld (pv 0) (pe_lst pa_nil) rfl)
      (pss_cons (ps_fld (pv 0) (pe_lst pa_nil) rfl)
      (pss_cons (ps_fld (pv 0) pe_dnewT rfl)
      (pss_one (ps_fld (pv 0) (pe_op op_rep (pe_lst (pa_cons pe_int pa_nil)) (pe_gi T.g_HOLDERS rfl)) rfl))))))), ?_⟩
    have hl0 : fs.length < 900 := by
      rcases hfs with rfl | ⟨a, b, c, d, e, f, rfl⟩
      · decide
      · show 6 < 900
        decide
    have hall : ∀ a b c d e f : V, putF "balances" f (putF "corrections" e (putF "days" d (putF "deals" c (putF "quotes" b (putF "terms" a fs))))) = fFund a b c d e f := by
      intro a b c d e f
      rcases hfs with rfl | ⟨a', b', c', d', e', f', rfl⟩ <;> rfl
    refine ⟨_, rfl, _, rfl, p, A.cFund, dx, _, rfl, hp, T.cl_Fund, T.na_Fund_terms, Nat.lt_of_lt_of_le hl0 (by decide), ?_⟩
    have x1 := Ex.put (o := .ins A.cFund dx (putF "terms" (.ref t) fs)) sg gp (some_ne hp)
    have p1 : (upd H p (.ins A.cFund dx (putF "terms" (.ref t) fs))) p = _ := upd_same
    refine ⟨(by show 1 ≤ sizeLine; decide), fun z hz => ⟨z, 6, [.int 0], rfl, rfl, upd_same, by decide, by decide, (by show 1 * 6 ≤ sizeLine; decide), fun q hq => ?_⟩⟩
    have x2 := Ex.new (o := .lst [.int 0]) x1.gh hz
    have x3 := Ex.new (o := .lst ((List.replicate 6 0).map nV)) x2.gh hq
    have p3 := x3.keep0 (x2.keep0 p1)
    refine ⟨_, rfl, p, A.cFund, dx, _, rfl, p3, T.cl_Fund, T.na_Fund_quotes, Nat.lt_of_lt_of_le (lt_put hl0) (by decide), ?_⟩
    have x4 := Ex.put (o := .ins A.cFund dx (putF "quotes" (.ref q) (putF "terms" (.ref t) fs))) x3.gh gp (some_ne p3)
    have X4 : Ex [p] G H G _ := (x1.tr x2.w0).tr (x3.w0.tr x4)
    have Xq := x3
    have hqH : H q = Option.none := x1.freeH (x2.freeH hq)
    refine ⟨(by show 0 ≤ sizeLine; decide), fun d hd => ?_⟩
    have x5 := Ex.new (o := .lst []) x4.gh hd
    have p5 := x5.keep0 (show _ = some (HO.ins A.cFund dx (putF "quotes" (.ref q) (putF "terms" (.ref t) fs))) from upd_same)
    refine ⟨_, rfl, p, A.cFund, dx, _, rfl, p5, T.cl_Fund, T.na_Fund_deals, Nat.lt_of_lt_of_le (lt_put (lt_put hl0)) (by decide), ?_⟩
    have x6 := Ex.put (o := .ins A.cFund dx (putF "deals" (.ref d) (putF "quotes" (.ref q) (putF "terms" (.ref t) fs)))) x5.gh gp (some_ne p5)
    have hdH : H d = Option.none := X4.freeH hd
    have q4 := x4.keep (show _ = some (HO.lst ((List.replicate 6 0).map nV)) from upd_same) (show q ∉ [p] from by simp; exact (ne_of_none (x2.keep0 p1) hq).symm)
    have hqd : q ≠ d := ne_of_none q4 hd
    refine ⟨(by show 0 ≤ sizeLine; decide), fun y hy => ?_⟩
    have x7 := Ex.new (o := .lst []) x6.gh hy
    have p7 := x7.keep0 (show _ = some (HO.ins A.cFund dx (putF "deals" (.ref d) (putF "quotes" (.ref q) (putF "terms" (.ref t) fs)))) from upd_same)
    refine ⟨_, rfl, p, A.cFund, dx, _, rfl, p7, T.cl_Fund, T.na_Fund_days, Nat.lt_of_lt_of_le (lt_put (lt_put (lt_put hl0))) (by decide), ?_⟩
    have x8 := Ex.put (o := .ins A.cFund dx (putF "days" (.ref y) (putF "deals" (.ref d) (putF "quotes" (.ref q) (putF "terms" (.ref t) fs))))) x7.gh gp (some_ne p7)
    have hyH : H y = Option.none := X4.freeH (x5.freeH (x6.freeH hy))
    have nqp : q ≠ p := (ne_of_none (x2.keep0 p1) hq).symm
    have ndp : d ≠ p := (ne_of_none (show _ = some (HO.ins A.cFund dx (putF "quotes" (.ref q) (putF "terms" (.ref t) fs))) from upd_same) hd).symm
    have q6 := x6.keep (x5.keep0 q4) (show q ∉ [p] from by simp; exact nqp)
    have d6 := x6.keep (show _ = some (HO.lst []) from upd_same) (show d ∉ [p] from by simp; exact ndp)
    have hqy : q ≠ y := ne_of_none q6 hy
    have hdy : d ≠ y := ne_of_none d6 hy
    have nyp : y ≠ p := (ne_of_none (show _ = some (HO.ins A.cFund dx (putF "deals" (.ref d) (putF "quotes" (.ref q) (putF "terms" (.ref t) fs)))) from upd_same) hy).symm
    intro c hc
    have x9 := Ex.new (o := .dT []) x8.gh hc
    have p9 := x9.keep0 (show _ = some (HO.ins A.cFund dx (putF "days" (.ref y) (putF "deals" (.ref d) (putF "quotes" (.ref q) (putF "terms" (.ref t) fs))))) from upd_same)
    refine ⟨_, rfl, p, A.cFund, dx, _, rfl, p9, T.cl_Fund, T.na_Fund_corrections, Nat.lt_of_lt_of_le (lt_put (lt_put (lt_put (lt_put hl0)))) (by decide), ?_⟩
    have x10 := Ex.put (o := .ins A.cFund dx (putF "corrections" (.ref c) (putF "days" (.ref y) (putF "deals" (.ref d) (putF "quotes" (.ref q) (putF "terms" (.ref t) fs)))))) x9.gh gp (some_ne p9)
    have hcH : H c = Option.none := X4.freeH (x5.freeH (x6.freeH (x7.freeH (x8.freeH hc))))
    have ncp : c ≠ p := (ne_of_none (show _ = some (HO.ins A.cFund dx (putF "days" (.ref y) (putF "deals" (.ref d) (putF "quotes" (.ref q) (putF "terms" (.ref t) fs))))) from upd_same) hc).symm
    refine ⟨(by show 1 ≤ sizeLine; decide), fun z2 hz2 => ⟨z2, 10, [.int 0], rfl, rfl, upd_same, by decide, by decide, (by show 1 * 10 ≤ sizeLine; decide), fun b hb => ?_⟩⟩
    have x11 := Ex.new (o := .lst [.int 0]) x10.gh hz2
    have x12 := Ex.new (o := .lst ((List.replicate 10 (0 : Int)).map V.int)) x11.gh hb
    have p12 := x12.keep0 (x11.keep0 (show _ = some (HO.ins A.cFund dx (putF "corrections" (.ref c) (putF "days" (.ref y) (putF "deals" (.ref d) (putF "quotes" (.ref q) (putF "terms" (.ref t) fs)))))) from upd_same))
    refine ⟨_, rfl, p, A.cFund, dx, _, rfl, p12, T.cl_Fund, T.na_Fund_balances, Nat.lt_of_lt_of_le (lt_put (lt_put (lt_put (lt_put (lt_put hl0))))) (by decide), ?_⟩
    have x13 := Ex.put (o := .ins A.cFund dx (putF "balances" (.ref b) (putF "corrections" (.ref c) (putF "days" (.ref y) (putF "deals" (.ref d) (putF "quotes" (.ref q) (putF "terms" (.ref t) fs))))))) x12.gh gp (some_ne p12)
    have Y5 : Ex [p] G _ G _ := (x5.w0.tr x6).tr ((x7.w0.tr x8).tr ((x9.w0.tr x10).tr ((x11.w0.tr x12.w0).tr x13)))
    have Y7 : Ex [p] G _ G _ := (x7.w0.tr x8).tr ((x9.w0.tr x10).tr ((x11.w0.tr x12.w0).tr x13))
    have Y9 : Ex [p] G _ G _ := (x9.w0.tr x10).tr ((x11.w0.tr x12.w0).tr x13)
    have Y11 : Ex [p] G _ G _ := (x11.w0.tr x12.w0).tr x13
    have nbp : b ≠ p := (ne_of_none (x11.keep0 (show _ = some (HO.ins A.cFund dx (putF "corrections" (.ref c) (putF "days" (.ref y) (putF "deals" (.ref d) (putF "quotes" (.ref q) (putF "terms" (.ref t) fs)))))) from upd_same)) hb).symm
    have b13 := x13.keep (show _ = some (HO.lst ((List.replicate 10 (0 : Int)).map V.int)) from upd_same) (show b ∉ [p] from by simp; exact nbp)
    have hbH : H b = Option.none := X4.freeH (x5.freeH (x6.freeH (x7.freeH (x8.freeH (x9.freeH (x10.freeH (x11.freeH hb)))))))
    have Z := (X4.tr Y5).adopt sg hbH b13 (sg.free hbH)
    have qE := Y5.keep q4 (show q ∉ [p] from by simp; exact nqp)
    have dE := Y7.keep d6 (show d ∉ [p] from by simp; exact ndp)
    have yE := Y9.keep (x8.keep (show _ = some (HO.lst []) from upd_same) (show y ∉ [p] from by simp; exact nyp)) (show y ∉ [p] from by simp; exact nyp)
    have cE := Y11.keep (x10.keep (show _ = some (HO.dT []) from upd_same) (show c ∉ [p] from by simp; exact ncp)) (show c ∉ [p] from by simp; exact ncp)
    have nq : q ≠ b := fun z => by (subst z; exact absurd ((x11.tr x12).same0 |> fun _ => hb) (x11.dm _ (x10.dm _ (x9.dm _ (x8.dm _ (x7.dm _ (x6.dm _ (x5.dm _ (some_ne q4)))))))))
    have nd : d ≠ b := fun z => by (subst z; exact absurd hb (x11.dm _ (x10.dm _ (x9.dm _ (x8.dm _ (x7.dm _ (some_ne d6)))))))
    have ny : y ≠ b := fun z => by (subst z; exact absurd hb (x11.dm _ (x10.dm _ (x9.dm _ (x8.dm _ (some_ne (show _ = some (HO.lst []) from upd_same)))))))
    have nc : c ≠ b := fun z => by (subst z; exact absurd hb (x11.dm _ (x10.dm _ (some_ne (show _ = some (HO.dT []) from upd_same)))))
    refine k q d y c b _ _ Z hqH hdH hyH hcH ⟨⟨dx, by rw [upd_same, hall]⟩, (ht.mono Z.gg : TermsAt A _ t s), qE, ⟨[], dE, .nil⟩, yE, .nil, ⟨[], cE, rfl, fun n t => rfl⟩, upd_same, ?_, ?_, ?_, ?_, ?_, by simp, List.nodup_nil, hqd, hqy, hdy, by simp⟩
    · rw [upd_ne nbp.symm]; exact gp
    · rw [upd_ne nq]; exact sg.free hqH
    · rw [upd_ne nd]; exact sg.free hdH
    · rw [upd_ne ny]; exact sg.free hyH
    · rw [upd_ne nc]; exact sg.free hcH
theorem ok_Fund (T : Txt K mg A) : CalC P w K mg base 2 "Fund" A.cFund ["self", "terms"] (spAnew A) := by
  refine calC T.f_Fund sc_Fund_init (fun _ _ _ _ _ _ us hl => match us, hl with | [_, _], _ => rfl) (fun vs H Q E h => ?_) (fun f cdv A1 outer s0 H vs Q E hr h => ?_)
  · obtain ⟨p, dx, fs, t, s, G, rfl, _⟩ := h
    rfl
  · obtain ⟨p, dx, fs, t, s, G, rfl, sg, gp, hp, hfs, ht, k⟩ := h
    refine ⟨_, (pss_one (ps_expr (pe_md (ok_Fund_begin_anew T) (hr.mono (by decide)) (pv 0) (pa_cons (pv 1) pa_nil)))), ?_⟩
    refine ⟨_, rfl, p, dx, fs, rfl, hp, ?_, _, rfl, p, dx, fs, t, s, G, rfl, sg, gp, hp, hfs, ht, fun q d y c b G' H' e h1 h2 h3 h4 F => k q d y c b G' H' e h1 h2 h3 h4 F⟩
    rcases hfs with rfl | ⟨a, b, c, d, e, f, rfl⟩ <;> rfl
def spNewFund (A : Ad) : Sp := fun vs H Q _ => ∃ G, vs = [] ∧ Same G H ∧ ∀ p t q d y c b G' H', Ex [] G H G' H' → H p = Option.none → H q = Option.none → H d = Option.none → H y = Option.none → H c = Option.none → FundIs A G' H' p t q d y c b [] Vbfuam.start → Q (.ref p) H'
theorem ok_new_fund (T : Txt K mg A) : CalF P w K mg base 4 "new_fund" [] (spNewFund A) := by
  refine calF T.f_new_fund sc_new_fund (fun _ _ _ _ _ _ us hl => match us, hl with | [], _ => rfl) (fun vs H Q E h => ?_) (fun f cdv A1 outer s0 H vs Q E hr h => ?_)
  · obtain ⟨G, rfl, _⟩ := h
    rfl
  · obtain ⟨G, rfl, sg, k⟩ := h
    refine ⟨_, (pss_one (ps_ret (pe_mk (ok_Fund T) (hr.mono (by decide)) rfl (pa_cons (pe_rec (ok_Terms T) (hr.mono (by decide)) rfl (pa_cons pe_int (pa_cons pe_int (pa_cons pe_int (pa_cons (pe_op op_rep (pe_lst (pa_cons pe_int pa_nil)) (pe_gi T.g_THINGS rfl)) (pa_cons (pe_op op_cat (pe_lst (pa_cons pe_int pa_nil)) (pe_op op_rep (pe_lst (pa_cons pe_int pa_nil)) (pe_op op_sub (pe_gi T.g_HOLDERS rfl) pe_int))) pa_nil)))))) pa_nil)))), ?_⟩
    refine ⟨(by show 1 ≤ sizeLine; decide), fun z1 h1 => ⟨z1, 6, [.int 0], rfl, rfl, upd_same, by decide, by decide, (by show 1 * 6 ≤ sizeLine; decide), fun tq h2 => ?_⟩⟩
    have x1 := Ex.new (o := .lst [.int 0]) sg h1
    have x2 := Ex.newG (o := .lst ((List.replicate 6 0).map nV)) x1.gh h2
    refine ⟨(by show 1 ≤ sizeLine; decide), fun z3 h3 => ⟨(by show 1 ≤ sizeLine; decide), fun z4 h4 => ⟨_, _, rfl, rfl, z4, 9, [.int 0], rfl, rfl, upd_same, by decide, by decide, (by show 1 * 9 ≤ sizeLine; decide), fun z5 h5 => ?_⟩⟩⟩
    have x3 := Ex.new (o := .lst [.int 1000000]) x2.gh h3
    have x4 := Ex.new (o := .lst [.int 0]) x3.gh h4
    have x5 := Ex.new (o := .lst ((List.replicate 9 (0 : Int)).map V.int)) x4.gh h5
    refine ⟨z3, z5, [.int 1000000], _, rfl, rfl, x5.keep0 (x4.keep0 upd_same), upd_same, (by show 1 + 9 ≤ sizeLine; decide), fun tu h6 => ⟨rfl, fun t dt hxt hdt hnt => fun p dp hxp hdp hnp => ?_⟩⟩
    have x6 := Ex.newG (o := .lst (((1000000 : Int) :: List.replicate 9 (0 : Int)).map V.int)) x5.gh h6
    have x7 := Ex.made (o := .ins A.cTerms dt (fTerms (.int 1000) (.int 0) (.int 0) (.ref tq) (.ref tu))) x6.gh hxt hdt hnt
    have x8 := Ex.madeM (o := .ins A.cFund dp []) x7.gh hxp hdp hnp
    have X := x1.trans0 (x2.trans0 (x3.trans0 (x4.trans0 (x5.trans0 (x6.trans0 x7)))))
    have X8 := X.trans0 x8
    refine ⟨p, dp, [], t, Vbfuam.start, _, rfl, x8.gh, none_of_same x7.gh hxp, upd_same, .inl rfl, ⟨tq, tu, ⟨dt, upd_same⟩, x7.gg _ _ (x6.gg _ _ (x5.gg _ _ (x4.gg _ _ (x3.gg _ _ upd_same)))), x7.gg _ _ upd_same⟩, fun q d y c b G' H' e hq hd hy hc F => ⟨rfl, ?_⟩⟩
    exact k p t q d y c b G' H' ((X8.trans e).drop (by simp [X.freeH hxp])) (X.freeH hxp) (X8.freeH hq) (X8.freeH hd) (X8.freeH hy) (X8.freeH hc) F
end
end My
set_option Elab.async false
set_option linter.all false
set_option maxRecDepth 100000
set_option maxHeartbeats 2000000
namespace My
open PySem PySem.Spec PyProof.Rows L2
open Vbfuam (State Deal Out Day Fix Book Right)
theorem Ex.take {M : List Addr} {G H G' H' : Hp} {D : Addr} {o : HO} (e : Ex M G H G' H') (g0 : G D = Option.none) (hm : D ∈ M) (h' : H' D = some o) (g : G' D = Option.none) : Ex M G H (upd G' D o) H' where
  gg := same_upd e.gg g0
  gh := fun b u q => by
    by_cases z : b = D
    · subst z
      rw [upd_same] at q
      cases q
      exact h'
    · rw [upd_ne z] at q
      exact e.gh b u q
  hh := e.hh
  dm := e.dm
  no := fun a h1 h2 h3 => by
    rw [upd_ne (fun z => h3 (by rw [z]; exact hm))]
    exact e.no a h1 h2 h3
theorem nd_snoc' {α : Type} {l : List α} {x : α} (h : l.Nodup) (hx : x ∉ l) : (l ++ [x]).Nodup := by
  rw [List.nodup_append]
  refine ⟨h, by simp, fun a ha b hb => ?_⟩
  rw [List.mem_singleton.mp hb]
  exact fun z => hx (z ▸ ha)
section
variable {P : Program} {w : World} {K : PySem.W.Frag} {mg : Str → Option Value} {base : Heap} {A : Ad}
def closed (s : State) (v u : Int) (f : Nat) : State := { s with days := s.days ++ [{ quotes := s.quotes, deals := s.deals, value := v, units := u, fee := f, first := s.deals.map (Vbfuam.done v u), feeNow := f, outs := s.deals.map (Vbfuam.done v u) }], deals := [] }
def spClose (A : Ad) : Sp := fun vs H Q _ => ∃ p t q d y c b ys s r v u f G, vs = [.ref p, .ref r] ∧ Same G H ∧ FundIs A G H p t q d y c b ys s ∧ Good s ∧ RecAt A G r v u f ∧ 1 ≤ v ∧ v ≤ 1000000000000000 ∧ 1 ≤ u ∧ s.days.length < 60 ∧
  ∀ x d' G' H', Ex [p, d, y] G H G' H' → H x = Option.none → H d' = Option.none → FundIs A G' H' p t q d' y c b (ys ++ [x]) (closed s v u f) → Q .non H'
theorem ok_Fund_close_today (T : Txt K mg A) : CalM P w K mg base 7 A.cFund "close_today" ["self", "reckoning"] (spClose A) := by
  refine calM T.f_Fund_close_today T.cl_Fund sc_Fund_close_today (fun _ _ _ _ _ _ us hl => match us, hl with | [_, _], _ => rfl) (fun vs H Q E h => ?_) (fun f cdv A1 outer s0 H vs Q E hr h => ?_)
  · obtain ⟨p, t, q, d, y, c, b, ys, s, r, v, u, f, G, rfl, _⟩ := h
    rfl
  · obtain ⟨p, t, q, d, y, c, b, ys, s, r, v, u, f, G, rfl, sg, F, g, hrc, hv, hv2, hu, hfew, k⟩ := h
    obtain ⟨dp, hp⟩ := F.ins
    obtain ⟨as, hd, pd⟩ := F.deals
    refine ⟨_, (pss_cons (ps_expr (pe_bm PySem.F.plainAttrs_list PySem.F.slot_list_append PySem.F.type_list_append mt_append (pe_fld (pv 0) rfl) (pa_cons (pe_mk (ok_ClosedDay T) (hr.mono (by decide)) rfl (pa_cons (pe_callTy call_list_of (by rfl) T.b_list PyProof.Rows.boot_list (pa_cons (pe_fld (pv 0) rfl) pa_nil)) (pa_cons (pe_fld (pv 0) rfl) (pa_cons (pv 1) pa_nil)))) pa_nil)))
      (pss_one (ps_fld (pv 0) (pe_lst pa_nil) rfl))), ?_⟩
    refine ⟨_, rfl, p, A.cFund, dp, _, _, rfl, hp, T.cl_Fund, T.na_Fund_days, rfl, .inl ⟨rfl, _, SqL.of F.list⟩, _, rfl, p, A.cFund, dp, _, _, rfl, hp, T.cl_Fund, T.na_Fund_quotes, rfl, q, _, rfl, .inl (SqL.of F.quotes), fun nq hnq => ?_⟩
    have e1 := Ex.newG (o := .lst (s.quotes.map nV)) sg hnq
    refine ⟨_, rfl, p, A.cFund, dp, _, _, rfl, e1.keep0 hp, T.cl_Fund, T.na_Fund_deals, rfl, _, rfl, fun x dx hx hdx hn => ?_⟩
    have e2 := Ex.madeM (o := .ins A.cDay dx []) e1.gh hx hdx hn
    have e12 := e1.trans0 e2
    have hxH : H x = Option.none := e1.freeH hx
    have hd2 := e12.keep0 hd
    have ndx : d ≠ x := ne_of_none (e1.keep0 hd) hx
    have gx2 : (upd G nq (.lst (s.quotes.map nV))) x = Option.none := none_of_same e1.gh hx
    have pd2 : P2 (DealAt A (upd G nq (.lst (s.quotes.map nV)))) as s.deals := pd.imp fun _ _ z => z.mono e1.gg
    have hrc2 : RecAt A (upd G nq (.lst (s.quotes.map nV))) r v u f := hrc.mono e1.gg
    refine ⟨x, dx, nq, d, r, s.deals, v, u, f, _, rfl, e2.gh, gx2, upd_same, ⟨as, hd2, pd2.imp fun _ _ z => z.mono e2.gh⟩, hrc2.mono e2.gh, fun H' hk => ?_, hv, hv2, hu, g.deals, fun pp G3 H3 e3 gx3 hx3 hres => ⟨rfl, ?_⟩⟩
    · have hk2 : Same (upd G nq (.lst (s.quotes.map nV))) H' := fun b o z => hk b o (e2.gh b o z) (ne_of_none z gx2)
      exact ⟨⟨as, hk d _ hd2 ndx, pd2.imp fun _ _ z => z.mono hk2⟩, hrc2.mono hk2⟩
    · have nyx : y ≠ x := ne_of_none (e1.keep0 F.list) hx
      have npx : p ≠ x := ne_of_none (e1.keep0 hp) hx
      have hy3 := e3.keep (e12.keep0 F.list) (show y ∉ [x] from by simp; exact nyx)
      have gy3 : G3 y = Option.none := e3.apart (e12.keep0 F.list) (e12.apart F.list F.gy (by simp)) (show y ∉ [x] from by simp; exact nyx)
      have lys := F.days.len
      refine ⟨y, _, _, rfl, rfl, hy3, ?_, ?_⟩
      · rw [List.length_map]
        exact Nat.lt_of_le_of_lt (show _ ≤ 60 by omega) (by decide)
      have e4 := Ex.put (o := .lst (ys.map V.ref ++ [.ref x])) e3.gh gy3 (some_ne hy3)
      refine ⟨(by show 0 ≤ sizeLine; decide), fun d' hd' => ?_⟩
      have e5 := Ex.new (o := .lst []) e4.gh hd'
      have npy : p ≠ y := ne_of hp F.list (by intro z; cases z)
      have hp3 := e3.keep (e12.keep0 hp) (show p ∉ [x] from by simp; exact npx)
      have hp5 := e5.keep0 (e4.keep hp3 (show p ∉ [y] from by simp; exact npy))
      have gp3 : G3 p = Option.none := e3.apart (e12.keep0 hp) (e12.apart hp F.gp (by simp)) (show p ∉ [x] from by simp; exact npx)
      refine ⟨_, rfl, p, A.cFund, dp, _, rfl, hp5, T.cl_Fund, T.na_Fund_deals, (by show 6 < 1000; decide), ?_⟩
      have e6 := Ex.put (o := .ins A.cFund dp (fFund (.ref t) (.ref q) (.ref d') (.ref y) (.ref c) (.ref b))) e5.gh gp3 (some_ne hp5)
      have ndy := F.dy
      have ndp : d ≠ p := ne_of hd hp (by intro z; cases z)
      have hd3 := e3.keep hd2 (show d ∉ [x] from by simp; exact ndx)
      have hd6 := e6.keep (e5.keep0 (e4.keep hd3 (show d ∉ [y] from by simp; exact ndy))) (show d ∉ [p] from by simp; exact ndp)
      have gd3 : G3 d = Option.none := e3.apart hd2 (e12.apart hd F.gd (by simp)) (show d ∉ [x] from by simp; exact ndx)
      have X : Ex [p, d, y] G H G3 _ := ((e12.trans e3).trans (e4.trans (e5.trans e6))).drop (by simp [hxH])
      have Z := X.take (o := .lst (as.map V.ref)) F.gd (by simp) hd6 gd3
      have hd'H : H d' = Option.none := e12.freeH (e3.freeH (e4.freeH hd'))
      have g3d' : G3 d' = Option.none := none_of_same e4.gh hd'
      have nd'd : d' ≠ d := (ne_of_none (e4.keep hd3 (show d ∉ [y] from by simp; exact ndy)) hd').symm
      have nd'p : d' ≠ p := (ne_of_none (e4.keep hp3 (show p ∉ [y] from by simp; exact npy)) hd').symm
      have nqy := F.qy
      have nqd := F.qd
      have nqx : q ≠ x := ne_of_none (e1.keep0 F.quotes) hx
      have nqp : q ≠ p := ne_of F.quotes hp (by intro z; cases z)
      have keepZ : ∀ a o, H a = some o → a ≠ p → a ≠ d → a ≠ y → _ := fun a o h1 h2 h3 h4 => Z.keep h1 (show a ∉ [p, d, y] from by simp; exact ⟨h2, h3, h4⟩)
      obtain ⟨kvs, hc, fr⟩ := F.fixes
      have ncp : c ≠ p := ne_of hc hp (by intro z; cases z)
      have ncd : c ≠ d := ne_of hc hd (by intro z; cases z)
      have ncy : c ≠ y := ne_of hc F.list (by intro z; cases z)
      have gZ : ∀ a, H a ≠ Option.none → G a = Option.none → a ≠ p → a ≠ d → a ≠ y → (upd G3 d (HO.lst (as.map V.ref))) a = Option.none := fun a h0 h1 h2 h3 h4 => Z.no a h0 h1 (show a ∉ [p, d, y] from by simp; exact ⟨h2, h3, h4⟩)
      have dayNe : ∀ a ∈ ys, a ≠ d ∧ a ≠ y ∧ a ≠ x := fun a ha => by
        obtain ⟨dd, _, _, _, _, _, _, ⟨dda, hda⟩, _⟩ := F.days.mem ha
        exact ⟨ne_of hda hd (by intro z; cases z), ne_of hda F.list (by intro z; cases z), ne_of_none (e1.keep0 hda) hx⟩
      have hx6 := e6.keep (e5.keep0 (e4.keep hx3 (show x ∉ [y] from by simp; exact nyx.symm))) (show x ∉ [p] from by simp; exact npx.symm)
      have hnq3 : (upd G3 d (HO.lst (as.map V.ref))) nq = some (.lst (s.quotes.map nV)) := by
        rw [upd_ne (ne_of_none hd hnq).symm]
        exact e3.gg _ _ (e2.gg _ _ upd_same)
      refine k x d' _ _ Z hxH hd'H ⟨⟨dp, upd_same⟩, (F.terms.mono Z.gg : TermsAt A _ t s), keepZ q _ F.quotes nqp nqd nqy, ⟨[], e6.keep (show _ = some (HO.lst []) from upd_same) (show d' ∉ [p] from by simp; exact nd'p), .nil⟩, ?_, ?_, ⟨kvs, keepZ c _ hc ncp ncd ncy, fr⟩, Z.gg _ _ F.net, ?_, ?_, ?_, ?_, ?_, ?_, ?_, ?_, nqy, ?_, ?_⟩
      · have hy6 := e6.keep (e5.keep0 (show (upd H3 y (.lst (ys.map V.ref ++ [.ref x]))) y = _ from upd_same)) (show y ∉ [p] from by simp; exact npy.symm)
        show _ = some (HO.lst ((ys ++ [x]).map V.ref))
        refine hy6.trans ?_
        rw [List.map_append]
        rfl
      · refine P2.snoc ?_ (F.days.impMem fun a dd ha z => z.mono Z.gg fun o h => keepZ a o h (fun w => F.pys (w ▸ ha)) (dayNe a ha).1 (dayNe a ha).2.1)
        have gres : ResAt A (upd G3 d (HO.lst (as.map V.ref))) pp f (s.deals.map (Vbfuam.done v u)) := hres.mono (same_new gd3)
        exact ⟨nq, d, r, pp, pp, ⟨dx, hx6⟩, hnq3, ⟨as, upd_same, pd.imp fun _ _ z => z.mono Z.gg⟩, hrc.mono Z.gg, gres, gres⟩
      · rw [upd_ne ndp.symm]; exact gp3
      · exact gZ q (some_ne F.quotes) F.gq nqp nqd nqy
      · rw [upd_ne nd'd]; exact g3d'
      · rw [upd_ne ndy.symm]; exact gy3
      · exact gZ c (some_ne hc) F.gc ncp ncd ncy
      · intro a ha
        rcases List.mem_append.mp ha with h | h
        · obtain ⟨dd, _, _, _, _, _, _, ⟨dda, hda⟩, _⟩ := F.days.mem h
          exact gZ a (some_ne hda) (F.gs a h) (fun w => F.pys (w ▸ h)) (dayNe a h).1 (dayNe a h).2.1
        · rw [List.mem_singleton.mp h, upd_ne ndx.symm]
          exact gx3
      · exact nd_snoc' F.nd fun h => (dayNe x h).2.2 rfl
      · exact fun z => absurd hd' (e4.dm _ (e3.dm _ (e12.dm _ (by rw [← z]; exact some_ne F.quotes))))
      · exact fun z => absurd hd' (e4.dm _ (e3.dm _ (e12.dm _ (by rw [z]; exact some_ne F.list))))
      · intro h
        rcases (List.mem_append.mp h) with h | h
        · exact F.pys h
        · exact npx (List.mem_singleton.mp h)
end
end My
set_option Elab.async false
set_option linter.all false
set_option maxRecDepth 100000
set_option maxHeartbeats 2000000
namespace My
open PySem PySem.Spec PyProof.Rows L2
open Vbfuam (State Deal Out Day Fix Book Right)
theorem P2.upd {α β : Type} {R S : α → β → Prop} {a : α} {b' : β} (r : S a b') : ∀ {as : List α} {bs : List β} {i : Nat}, P2 R as bs → as[i]? = some a → (∀ (j : Nat) (x : α) (y : β), as[j]? = some x → j ≠ i → R x y → S x y) → P2 S as (bs.set i b')
  | _, _, i, .nil, h, _ => by simp at h
  | _, _, 0, .cons (as := as) (bs := bs) h t, e, f => by
    have e1 : _ = a := Option.some.inj e
    subst e1
    refine .cons r ?_
    have key : ∀ {as : List α} {bs : List β}, P2 R as bs → (∀ (j : Nat) (x : α) (y : β), as[j]? = some x → R x y → S x y) → P2 S as bs := by
      intro as bs q
      induction q with
      | nil => intro _; exact .nil
      | cons h' t' ih => intro g; exact .cons (g 0 _ _ rfl h') (ih fun j x y e => g (j + 1) x y e)
    exact key t fun j x y e => f (j + 1) x y e (by omega)
  | _, _, i + 1, .cons h t, e, f => .cons (f 0 _ _ rfl (by omega) h) (P2.upd r t e fun j x y e' n => f (j + 1) x y e' (by omega))
def corrDay (p : Day × Right) : Day := { p.1 with feeNow := p.2.fee, outs := p.2.outs }
def mixed (ds : List Day) (rs : List Right) (i : Nat) : List Day := ((ds.zip rs).take i).map corrDay ++ ds.drop i
theorem mixed_all {ds : List Day} {rs : List Right} (h : rs.length = ds.length) : mixed ds rs ds.length = (ds.zip rs).map corrDay := by
  unfold mixed
  have hz : (ds.zip rs).length = ds.length := by
    rw [List.length_zip]
    omega
  rw [List.drop_length, List.append_nil, ← hz, List.take_length]
theorem mixed_get {ds : List Day} {rs : List Right} (h : rs.length = ds.length) {i : Nat} {d : Day} (e : ds[i]? = some d) : (mixed ds rs i)[i]? = some d := by
  unfold mixed
  have hi : i < ds.length := (List.getElem?_eq_some_iff.mp e).1
  have hl : (((ds.zip rs).take i).map corrDay).length = i := by
    rw [List.length_map, List.length_take, List.length_zip]
    omega
  rw [List.getElem?_append_right (by omega), hl, Nat.sub_self, List.getElem?_drop]
  exact e
theorem mixed_succ {ds : List Day} {rs : List Right} (h : rs.length = ds.length) {i : Nat} {d : Day} {r : Right} (e : ds[i]? = some d) (e2 : rs[i]? = some r) : mixed ds rs (i + 1) = (mixed ds rs i).set i (corrDay (d, r)) := by
  unfold mixed
  have hi : i < ds.length := (List.getElem?_eq_some_iff.mp e).1
  have hl : (((ds.zip rs).take i).map corrDay).length = i := by
    rw [List.length_map, List.length_take, List.length_zip]
    omega
  have hd : ds.drop i = d :: ds.drop (i + 1) := by
    rw [List.drop_eq_getElem_cons hi]
    rw [List.getElem?_eq_getElem hi] at e
    rw [Option.some.inj e]
  rw [map_take _ (zip_get e e2), hd, List.set_append_right _ _ (by omega), hl, Nat.sub_self, List.append_assoc]
  rfl
def feesTo (s : State) (i : Nat) : Int := Vbfuam.isum (((s.days.zip (Vbfuam.rights s)).take i).map fun p => (p.1.feeNow : Int) - (p.2.fee : Int))
theorem feesTo_succ {s : State} {i : Nat} {d : Day} {r : Right} (e : s.days[i]? = some d) (e2 : (Vbfuam.rights s)[i]? = some r) : feesTo s (i + 1) = feesTo s i + ((d.feeNow : Int) - (r.fee : Int)) := by
  unfold feesTo
  rw [map_take _ (zip_get e e2), isum_eq, isum_eq, sum_snoc]
theorem feesTo_all (s : State) : feesTo s s.days.length = Vbfuam.isum ((s.days.zip (Vbfuam.rights s)).map fun p => (p.1.feeNow : Int) - (p.2.fee : Int)) := by
  unfold feesTo
  have hz : (s.days.zip (Vbfuam.rights s)).length = s.days.length := by
    have := rights_len s
    rw [List.length_zip]
    omega
  rw [← hz, List.take_length]
theorem net_new {s : State} (g : Good s) : (s.net.zip (owedList s)).map (fun z => z.1 + z.2) = Vbfuam.holders.map fun h => s.net.getD (h - 1) 0 + Vbfuam.owedBy s h := by
  refine List.ext_getElem? fun i => ?_
  have h1 := g.net
  have h2 := owedList_len s
  by_cases hi : i < 10
  · have h3 := owedList_at g (h := i + 1) (by omega) (by omega)
    rw [Nat.add_sub_cancel, List.getD_eq_getElem?_getD, List.getElem?_eq_getElem (by omega)] at h3
    have h3' : (owedList s)[i]'(by omega) = Vbfuam.owedBy s (i + 1) := h3
    rw [List.getElem?_map, zip_get (List.getElem?_eq_getElem (show i < s.net.length by omega)) (List.getElem?_eq_getElem (show i < (owedList s).length by omega))]
    unfold Vbfuam.holders
    rw [List.getElem?_map, List.getElem?_map, List.getElem?_range (show i < Vbfuam.HOLDERS from hi)]
    show some (s.net[i] + (owedList s)[i]) = some (s.net.getD (i + 1 - 1) 0 + Vbfuam.owedBy s (i + 1))
    rw [h3', Nat.add_sub_cancel, List.getD_eq_getElem?_getD, List.getElem?_eq_getElem (show i < s.net.length by omega)]
    rfl
  · rw [List.getElem?_eq_none (by rw [List.length_map, List.length_zip]; omega), List.getElem?_eq_none (by unfold Vbfuam.holders; rw [List.length_map, List.length_map, List.length_range]; show 10 ≤ i; omega)]
section
variable {P : Program} {w : World} {K : PySem.W.Frag} {mg : Str → Option Value} {base : Heap} {A : Ad}
def wnums (rs : List Right) (n : Nat) : List Nat := (List.range n).filter fun i => (rs[i]?).any fun r => r.wrong
theorem wnums_succ {rs : List Right} {i : Nat} {r : Right} (h : rs[i]? = some r) : wnums rs (i + 1) = wnums rs i ++ (if r.wrong = true then [i] else []) := by
  unfold wnums
  rw [List.range_succ, List.filter_append, List.filter_cons, List.filter_nil, h]
  rfl
theorem wnums_len {rs : List Right} : ∀ {i : Nat}, i ≤ rs.length → (wnums rs i).length = ((rs.take i).filter fun r => r.wrong).length
  | 0, _ => rfl
  | i + 1, h => by
    have hd : rs[i]? = some rs[i] := List.getElem?_eq_getElem (by omega)
    rw [wnums_succ hd, filter_take _ hd, List.length_append, List.length_append, wnums_len (by omega)]
    by_cases w : rs[i].wrong = true
    · rw [if_pos w, if_pos w]
      rfl
    · rw [if_neg w, if_neg w]
      rfl
theorem wnums_le (rs : List Right) (n : Nat) : (wnums rs n).length ≤ n := by
  unfold wnums
  refine Nat.le_trans (List.length_filter_le _ _) ?_
  rw [List.length_range]
  exact Nat.le_refl _
def wints (rs : List Right) (n : Nat) : List Int := (wnums rs n).map fun i => ((i + 1 : Nat) : Int)
def spWrong (A : Ad) : Sp := fun vs H Q _ => ∃ h hs rs G, vs = [.ref h] ∧ Same G H ∧ Refs H h hs ∧ P2 (RightAt A G) hs rs ∧ rs.length ≤ 60 ∧ ∀ D H', Ex [] G H G H' → H D = Option.none → Ints H' D (wints rs rs.length) → Q (.ref D) H'
theorem ok_numbers_of_wrong_days (T : Txt K mg A) : CalF P w K mg base 1 "numbers_of_wrong_days" ["history"] (spWrong A) := by
  refine calF T.f_numbers_of_wrong_days sc_numbers_of_wrong_days (fun _ _ _ _ _ _ us hl => match us, hl with | [_], _ => rfl) (fun vs H Q E h => ?_) (fun f cdv A1 outer s0 H vs Q E hr h => ?_)
  · obtain ⟨h, hs, rs, G, rfl, _⟩ := h
    rfl
  · obtain ⟨h, hs, rs, G, rfl, sg, hH, pr, few, k⟩ := h
    have l0 := pr.len
    refine ⟨_, (pss_one (ps_ret (pe_lc (g := gTup K 2 (gCons (gName 1) (gCons (gName 2) gNil))) (tt := (tB (tFld K (tVar 2) "wrong"))) rfl sc_numbers_of_wrong_days.nd (pi_enumS rfl T.b_enumerate (pa_cons (pv 0) pa_nil) (pk_cons pe_int pk_nil)) (blkOk_by (own := [("number", 1), ("right", 2)]) rfl) (fun _ _ _ _ _ => (pg_tup rfl (pgs_cons (pg_name (i := 1) sc_numbers_of_wrong_days.nd rfl (Or.inl rfl) (Or.inr rfl)) (pgs_cons (pg_name (i := 2) sc_numbers_of_wrong_days.nd rfl (Or.inl rfl) (Or.inr rfl)) pgs_nil)))) (fun _ _ _ _ _ => (pts_one (pt_val (pe_fld (pv 2) rfl)))) (fun _ _ _ _ _ => (pv 1))))), ?_⟩
    refine ⟨_, rfl, h, _, 1, rfl, rfl, rfl, SqL.of hH, fun D hD => lc_it (J := Ites K 1 h) (n := rs.length)
      (fun i H' => Ex [] G H G H' ∧ Ints H' D (wints rs i)) ⟨Ex.new sg hD, upd_same⟩ ?_ ?_ ?_ ?_⟩
    · rintro i H' hi ⟨e, _⟩
      exact ⟨_, _, SqL.of (e.keep0 hH), get_refs (List.getElem?_eq_getElem (show i < hs.length by omega))⟩
    · rintro H' ⟨e, _⟩
      exact ⟨_, SqL.of (e.keep0 hH), by rw [List.length_map]; omega⟩
    · rintro i H' x H'' hi ⟨e, hD'⟩ ⟨tp, x', rfl, htp, rfl, hx'⟩
      obtain ⟨a, ha, rfl⟩ := refs_get (hx' _ (SqL.of (e.keep0 hH)))
      obtain ⟨r, hr1, rc, ff, rp, ⟨dxr, hr2⟩, hr3⟩ := pr.right ha
      have e2 : Ex [] G H' G (upd H' tp (.tup [.int (1 + (i : Nat)), .ref a])) := Ex.new e.gh htp
      have ei : (1 : Int) + ((i : Nat) : Int) = ((i + 1 : Nat) : Int) := by omega
      have hD2 := e2.keep0 hD'
      refine ⟨tp, _, rfl, SqT.of upd_same, rfl, _, _, rfl, _, _, rfl, rfl, rfl, ?_⟩
      refine ⟨_, rfl, a, A.cRight, dxr, _, _, rfl, e2.gh _ _ hr2, T.cl_RightDay, T.na_RightDay_wrong, rfl, _, rfl, ite2 (fun hw => ?_) (fun hw => ?_)⟩
      · refine ⟨_, rfl, _, hD2, ?_, ?_, ?_⟩
        · rw [List.length_map]
          unfold wints
          rw [List.length_map]
          exact Nat.lt_of_le_of_lt (show _ ≤ 60 from Nat.le_trans (wnums_le rs i) (by omega)) (by decide)
        · exact ((e.trans0 e2).trans (Ex.put e2.gh (sg.free hD) (some_ne hD2))).drop (by simp [hD])
        · show upd _ _ _ _ = _
          rw [upd_same]
          unfold wints
          rw [wnums_succ hr1, if_pos hw, List.map_append, List.map_append, ei]
          rfl
      · refine ⟨e.trans0 e2, ?_⟩
        unfold wints
        rw [wnums_succ hr1, if_neg hw, List.append_nil]
        exact hD2
    · rintro H' ⟨e, hD'⟩
      exact k D H' e hD hD'
def spPut (A : Ad) : Sp := fun vs H Q _ => ∃ p t q d y c b ys s G, vs = [.ref p] ∧ Same G H ∧ FundIs A G H p t q d y c b ys s ∧ Good s ∧
  ∀ a b' G' H', Ex (p :: ys) G H G' H' → Ins H' a A.cPut (fPut (nV ((Vbfuam.rights s).filter fun r => r.wrong).length) (.int (Vbfuam.isum (Vbfuam.holders.map (Vbfuam.owedBy s)))) (.int (Vbfuam.isum ((s.days.zip (Vbfuam.rights s)).map fun p => (p.1.feeNow : Int) - (p.2.fee : Int))))) →
    FundIs A G' H' p t q d y c b' ys (Vbfuam.corrected s) → Q (.ref a) H'
theorem ok_Fund_put_right (T : Txt K mg A) : CalM P w K mg base 8 A.cFund "put_right" ["self"] (spPut A) := by
  refine calM T.f_Fund_put_right T.cl_Fund sc_Fund_put_right (fun _ _ _ _ _ _ us hl => match us, hl with | [_], _ => rfl) (fun vs H Q E h => ?_) (fun f cdv A1 outer s0 H vs Q E hr h => ?_)
  · obtain ⟨p, t, q, d, y, c, b, ys, s, G, rfl, _⟩ := h
    rfl
  · obtain ⟨p, t, q, d, y, c, b, ys, s, G, rfl, sg, F, g, k⟩ := h
    obtain ⟨dp, hp⟩ := F.ins
    have rl := rights_len s
    have few := g.days
    refine ⟨_, (pss_cons (ps_set (i := 1) sc_Fund_put_right.nd rfl (Or.inl rfl) (pe_md0 (ok_Fund_history T) (hr.mono (by decide)) (pv 0)))
      (pss_cons (ps_set (i := 2) sc_Fund_put_right.nd rfl (Or.inl rfl) (pe_fn (ok_owed_to_holders T) (hr.mono (by decide)) rfl (pa_cons (pe_fld (pv 0) rfl) (pa_cons (pv 1) pa_nil))))
      (pss_cons (ps_fld (pv 0) (pe_lc (g := gTup K 2 (gCons (gName 6) (gCons (gName 7) gNil))) rfl sc_Fund_put_right.nd (pi_zip rfl T.b_zip (pa_cons (pe_fld (pv 0) rfl) (pa_cons (pv 2) pa_nil))) (blkOk_by (own := [("balance", 6), ("more", 7)]) rfl) (fun _ _ _ _ _ => (pg_tup rfl (pgs_cons (pg_name (i := 6) sc_Fund_put_right.nd rfl (Or.inl rfl) (Or.inr rfl)) (pgs_cons (pg_name (i := 7) sc_Fund_put_right.nd rfl (Or.inl rfl) (Or.inr rfl)) pgs_nil)))) (fun _ _ _ _ _ => pts_nil) (fun _ _ _ _ _ => (pe_op op_add (pv 6) (pv 7)))) rfl)
      (pss_cons (ps_set (i := 3) sc_Fund_put_right.nd rfl (Or.inl rfl) pe_int)
      (pss_cons (ps_for PassesOwn.never rfl (pi_zip rfl T.b_zip (pa_cons (pe_fld (pv 0) rfl) (pa_cons (pv 1) pa_nil))) (pg_tup rfl (pgs_cons (pg_name (i := 4) sc_Fund_put_right.nd rfl (Or.inl rfl)) (pgs_cons (pg_name (i := 5) sc_Fund_put_right.nd rfl (Or.inl rfl)) pgs_nil)))
      (pss_cons (ps_aug (i := 3) sc_Fund_put_right.nd rfl (Or.inl rfl) (pe_op op_sub (pe_fld (pe_fld (pv 4) rfl) rfl) (pe_fld (pe_fld (pv 5) rfl) rfl)) ip_add)
      (pss_one (ps_fld (pv 4) (pe_fld (pv 5) rfl) rfl))))
      (pss_one (ps_ret (pe_rec (ok_PutRight T) (hr.mono (by decide)) rfl (pa_cons (pe_callB call_len_seq (by rfl) T.b_len PySem.boot_len (pa_cons (pe_fn (ok_numbers_of_wrong_days T) (hr.mono (by decide)) rfl (pa_cons (pv 1) pa_nil)) pa_nil)) (pa_cons (pe_callB (cr_sum rfl) (by rfl) T.b_sum PyProof.Rows.boot_sum (pa_cons (pv 2) pa_nil)) (pa_cons (pv 3) pa_nil))))))))))), ?_⟩
    refine ⟨_, rfl, p, dp, _, rfl, hp, rfl, p, t, q, d, y, c, b, ys, s, G, rfl, sg, F, g, fun h hs G1 H1 e1 hh hH pr => ?_⟩
    have F1 := F.keep0 e1
    refine ⟨_, rfl, p, A.cFund, dp, _, _, rfl, e1.keep0 hp, T.cl_Fund, T.na_Fund_days, rfl, _, rfl, y, h, ys, hs, s.days, Vbfuam.rights s, G1, rfl, e1.gh, F1.list, F1.days, hH, pr, rl, g.day, fun o H2 e2 ho hO => ?_⟩
    have F2 := F1.keep0 e2
    have e12 := e1.trans0 e2
    have hp2 := e12.keep0 hp
    have hH2 := e2.keep0 hH
    have hO2 : Ints H2 o (owedList s) := hO
    refine ⟨_, rfl, p, A.cFund, dp, _, _, rfl, hp2, T.cl_Fund, T.na_Fund_balances, rfl, _, rfl, b, o, _, _, rfl, SqL.of (e2.gh _ _ F2.net), SqL.of hO2, fun D hD => lc_it (J := Itz K b o) (n := 10)
      (fun i H' => Ex [] G1 H2 G1 H' ∧ Ints H' D (((s.net.zip (owedList s)).take i).map fun z => z.1 + z.2)) ⟨Ex.new e2.gh hD, upd_same⟩ ?_ ?_ ?_ ?_⟩
    · rintro i H' hi ⟨e, _⟩
      have n1 := g.net
      have n2 := owedList_len s
      exact ⟨_, _, _, _, SqL.of (e.gh _ _ F2.net), SqL.of (e.keep0 hO2), (by rw [List.getElem?_map, List.getElem?_eq_getElem (show i < s.net.length by omega)]; rfl), (by rw [List.getElem?_map, List.getElem?_eq_getElem (show i < (owedList s).length by omega)]; rfl)⟩
    · rintro H' ⟨e, _⟩
      have n1 := g.net
      exact ⟨_, _, SqL.of (e.gh _ _ F2.net), SqL.of (e.keep0 hO2), .inl (by rw [List.length_map]; omega)⟩
    · rintro i H' x H'' hi ⟨e, hD'⟩ ⟨tp, x', y', rfl, htp, rfl, hx', hy'⟩
      have n1 := g.net
      have n2 := owedList_len s
      have hx2 := hx' _ (SqL.of (e.gh _ _ F2.net))
      have hy2 := hy' _ (SqL.of (e.keep0 hO2))
      rw [List.getElem?_map, List.getElem?_eq_getElem (show i < s.net.length by omega)] at hx2
      rw [List.getElem?_map, List.getElem?_eq_getElem (show i < (owedList s).length by omega)] at hy2
      cases hx2
      cases hy2
      have e3 : Ex [] G1 H' G1 (upd H' tp (.tup [.int s.net[i], .int (owedList s)[i]])) := Ex.new e.gh htp
      have hD3 := e3.keep0 hD'
      refine ⟨tp, _, rfl, SqT.of upd_same, rfl, _, _, rfl, _, _, rfl, rfl, rfl, ?_⟩
      refine ⟨_, rfl, _, rfl, _, _, rfl, rfl, _, hD3, ?_, ?_, ?_⟩
      · rw [List.length_map, List.length_map, List.length_take, List.length_zip]
        exact Nat.lt_of_le_of_lt (show _ ≤ 10 by omega) (by decide)
      · exact ((e.trans0 e3).trans (Ex.put e3.gh (e2.gh.free hD) (some_ne hD3))).drop (by simp [hD])
      · show upd _ _ _ _ = _
        rw [upd_same, map_take _ (zip_get (List.getElem?_eq_getElem (show i < s.net.length by omega)) (List.getElem?_eq_getElem (show i < (owedList s).length by omega))), List.map_append]
        rfl
    · rintro H3 ⟨e3, hD3⟩
      have n1 := g.net
      have n2 := owedList_len s
      have hz10 : (s.net.zip (owedList s)).length = 10 := by
        rw [List.length_zip]
        omega
      rw [← hz10, List.take_length, net_new g] at hD3
      have hp3 := e3.keep0 hp2
      have gp1 : G1 p = Option.none := F1.gp
      refine ⟨_, rfl, p, A.cFund, dp, _, rfl, hp3, T.cl_Fund, T.na_Fund_balances, (by show 6 < 1000; decide), ?_⟩
      have x3 := e3.adopt e2.gh hD hD3 (e2.gh.free hD)
      have nDp : D ≠ p := ne_of hD3 hp3 (by intro z; cases z)
      have gpD : (upd G1 D (.lst ((Vbfuam.holders.map fun h => s.net.getD (h - 1) 0 + Vbfuam.owedBy s h).map V.int))) p = Option.none := by
        rw [upd_ne nDp.symm]
        exact gp1
      have x4 := Ex.put (o := .ins A.cFund dp (fFund (.ref t) (.ref q) (.ref d) (.ref y) (.ref c) (.ref D))) x3.gh gpD (some_ne hp3)
      have hDH : H D = Option.none := e12.freeH hD
      have F3 := (F2.keep0 x3)
      have npys := F.pys
      have days4 : P2 (DayAt A _ _) ys s.days := F3.days.impMem fun a dd ha z => z.mono x4.gg fun o' h' => x4.keep h' (show a ∉ [p] from by simp; exact fun w => npys (w ▸ ha))
      have nyp : y ≠ p := ne_of F.list hp (by intro z; cases z)
      have nhp : h ≠ p := ne_of hH (e1.keep0 hp) (by intro z; cases z)
      have nop : o ≠ p := ne_of hO2 hp2 (by intro z; cases z)
      have hy4 := x4.keep (F3.list) (show y ∉ [p] from by simp; exact nyp)
      have hH4 := x4.keep (x3.keep0 hH2) (show h ∉ [p] from by simp; exact nhp)
      have hO4 := x4.keep (x3.keep0 hO2) (show o ∉ [p] from by simp; exact nop)
      have hp4 := (show (upd H3 p (.ins A.cFund dp (fFund (.ref t) (.ref q) (.ref d) (.ref y) (.ref c) (.ref D)))) p = _ from upd_same)
      have pr4 : P2 (RightAt A (upd G1 D (.lst ((Vbfuam.holders.map fun h => s.net.getD (h - 1) 0 + Vbfuam.owedBy s h).map V.int)))) hs (Vbfuam.rights s) := pr.imp fun _ _ z => z.mono x3.gg
      have lys := F.days.len
      have lhs := pr.len
      have gs3 := F3.gs
      have beside : ∀ {a : Addr} {o' : HO}, H2 a = some o' → (∀ C dx fs, o' ≠ .ins C dx fs) → a ∉ ys := fun {a o'} h1 h2 h3 => by
        obtain ⟨dd, _, _, _, _, _, _, ⟨dda, hda⟩, _⟩ := F2.days.mem h3
        rw [h1] at hda
        exact h2 _ _ _ (Option.some.inj hda)
      have nyys : y ∉ ys := beside F2.list (by intro _ _ _ z; cases z)
      have nhys : h ∉ ys := beside hH2 (by intro _ _ _ z; cases z)
      have noys : o ∉ ys := beside hO2 (by intro _ _ _ z; cases z)
      refine ⟨_, rfl, p, A.cFund, dp, _, _, rfl, hp4, T.cl_Fund, T.na_Fund_days, rfl, _, rfl, y, h, _, _, rfl, SqL.of hy4, SqL.of hH4,
        for_it (J := Itz K y h) (n := s.days.length) (fun i σ H' => ∃ v4 v5, σ = [some (.ref p), some (.ref h), some (.ref o), some (.int (feesTo s i)), v4, v5, Option.none, Option.none] ∧
          Ex ys (upd G1 D (.lst ((Vbfuam.holders.map fun h => s.net.getD (h - 1) 0 + Vbfuam.owedBy s h).map V.int))) (upd H3 p (.ins A.cFund dp (fFund (.ref t) (.ref q) (.ref d) (.ref y) (.ref c) (.ref D)))) (upd G1 D (.lst ((Vbfuam.holders.map fun h => s.net.getD (h - 1) 0 + Vbfuam.owedBy s h).map V.int))) H' ∧
          P2 (DayAt A (upd G1 D (.lst ((Vbfuam.holders.map fun h => s.net.getD (h - 1) 0 + Vbfuam.owedBy s h).map V.int))) H') ys (mixed s.days (Vbfuam.rights s) i))
        ⟨Option.none, Option.none, rfl, (Ex.refl x4.gh).w0, days4⟩ ?_ ?_ ?_ ?_⟩
      · rintro i σ H' hi ⟨v4, v5, rfl, e, _⟩
        exact ⟨_, _, _, _, SqL.of (e.keep hy4 nyys), SqL.of (e.keep hH4 nhys), get_refs (List.getElem?_eq_getElem (show i < ys.length by omega)), get_refs (List.getElem?_eq_getElem (show i < hs.length by omega))⟩
      · rintro σ H' ⟨v4, v5, rfl, e, _⟩
        exact ⟨_, _, SqL.of (e.keep hy4 nyys), SqL.of (e.keep hH4 nhys), .inl (by rw [List.length_map]; omega)⟩
      · rintro i σ H' x H'' hi ⟨v4, v5, rfl, e, pm⟩ ⟨tp, x', y', rfl, htp, rfl, hx', hy'⟩
        obtain ⟨ay, hay, rfl⟩ := refs_get (hx' _ (SqL.of (e.keep hy4 nyys)))
        obtain ⟨ar, har, rfl⟩ := refs_get (hy' _ (SqL.of (e.keep hH4 nhys)))
        have hd1 : s.days[i]? = some s.days[i] := List.getElem?_eq_getElem hi
        obtain ⟨r, hr1, hra⟩ := pr4.right har
        have hda := pm.get hay (mixed_get rl hd1)
        obtain ⟨yq, yl, yr, yp, yst, ⟨dy, hy1⟩, z1, z2, z3, z4, ⟨ol, ⟨dst, hst⟩, hol⟩⟩ := id hda
        obtain ⟨rc, ff, rp, ⟨dxr, hr2⟩, hr3, hr4⟩ := id hra
        obtain ⟨ol2, ⟨drp, hrp⟩, hol2⟩ := id hr4
        have e5 := Ex.new (o := .tup [.ref ay, .ref ar]) e.gh htp
        have hy5 := e5.keep0 hy1
        have gay := gs3 ay (List.mem_of_getElem? hay)
        refine ⟨tp, _, rfl, SqT.of upd_same, rfl, _, _, rfl, _, _, rfl, rfl, ?_⟩
        refine ⟨_, rfl, _, rfl, ay, A.cDay, dy, _, _, rfl, hy5, T.cl_ClosedDay, T.na_ClosedDay_standing, rfl, yst, A.cRes, dst, _, _, rfl, e5.gh _ _ hst, T.cl_DayResult, T.na_DayResult_fee, rfl, _, rfl, ar, A.cRight, dxr, _, _, rfl, e5.gh _ _ hr2, T.cl_RightDay, T.na_RightDay_result, rfl,
          rp, A.cRes, drp, _, _, rfl, e5.gh _ _ hrp, T.cl_DayResult, T.na_DayResult_fee, rfl, _, _, rfl, rfl, _, _, rfl, rfl, ?_⟩
        refine ⟨_, rfl, ar, A.cRight, dxr, _, _, rfl, e5.gh _ _ hr2, T.cl_RightDay, T.na_RightDay_result, rfl, _, rfl, ay, A.cDay, dy, _, rfl, hy5, T.cl_ClosedDay, T.na_ClosedDay_standing, (by show 5 < 1000; decide), ?_⟩
        have e6 := Ex.put (o := .ins A.cDay dy (fDay (.ref yq) (.ref yl) (.ref yr) (.ref yp) (.ref rp))) e5.gh gay (some_ne hy5)
        refine ⟨some (.ref ay), some (.ref ar), ?_, ?_, ?_⟩
        · rw [feesTo_succ hd1 hr1]
          rfl
        · refine ((e.trans e5).trans e6).weak fun a ha => ?_
          simp at ha
          rcases ha with h1 | h1
          · exact h1
          · rw [h1]
            exact List.mem_of_getElem? hay
        · rw [mixed_succ rl hd1 hr1]
          refine P2.upd ?_ pm hay fun j xx yy hj hji z => z.mono (Same.refl _) fun o' h' => ?_
          · exact ⟨yq, yl, yr, yp, rp, ⟨dy, upd_same⟩, z1, z2, z3, z4, hr4⟩
          · have nxx : xx ≠ ay := fun w => hji (nd_ix F.nd hj (by rw [w]; exact hay))
            exact e6.keep (e5.keep0 h') (show xx ∉ [ay] from by simp; exact nxx)
      · rintro σ H5 ⟨v4, v5, rfl, e5, pm⟩
        rw [mixed_all rl] at pm
        have hH5 := e5.keep hH4 nhys
        have hO5 := e5.keep hO4 noys
        refine ⟨_, rfl, h, hs, Vbfuam.rights s, _, rfl, e5.gh, hH5, pr4, (by omega), fun D2 H6 e6 hD2 hD6 => ?_⟩
        have hwl : (wints (Vbfuam.rights s) (Vbfuam.rights s).length).length = ((Vbfuam.rights s).filter fun r => r.wrong).length := by
          unfold wints
          rw [List.length_map, wnums_len (Nat.le_refl _), List.take_length]
        refine ⟨D2, _, rfl, .inl (SqL.of hD6), _, rfl, o, owedList s, rfl, SqL.of (e6.keep0 hO5), _, rfl, rfl, fun a da hxa hda hna => ?_⟩
        have e7 := Ex.madeM (o := .ins A.cPut da (fPut (.int (((wints (Vbfuam.rights s) (Vbfuam.rights s).length).map V.int).length : Nat)) (.int (owedList s).sum) (.int (feesTo s s.days.length)))) e6.gh hxa hda hna
        have X : Ex (p :: ys) G H (upd G1 D (.lst ((Vbfuam.holders.map fun h => s.net.getD (h - 1) 0 + Vbfuam.owedBy s h).map V.int))) _ :=
          ((e12.trans (x3.trans x4)).trans (e5.trans (e6.trans e7))).weak (by simp)
        have e67 := e6.trans0 e7
        have keepX : ∀ {a : Addr} {o' : HO}, H2 a = some o' → (∀ C dx fs, o' ≠ .ins C dx fs) → _ := fun {a o'} h1 h2 => e67.keep0 (e5.keep (x4.keep (x3.keep0 h1) (show a ∉ [p] from by simp; exact fun w => by rw [w, hp2] at h1; exact h2 _ _ _ (Option.some.inj h1).symm)) (beside h1 h2))
        have gX : ∀ {a : Addr}, H2 a ≠ Option.none → G1 a = Option.none → (upd G1 D (.lst ((Vbfuam.holders.map fun h => s.net.getD (h - 1) 0 + Vbfuam.owedBy s h).map V.int))) a = Option.none := fun {a} h1 h2 => by
          rw [upd_ne (fun w => h1 (by rw [w]; exact hD))]
          exact h2
        obtain ⟨kvs, hc, fr⟩ := F2.fixes
        obtain ⟨as, hdl, pdl⟩ := F2.deals
        refine k a D _ _ X ⟨da, ?_⟩ ⟨⟨dp, e67.keep0 (e5.keep hp4 npys)⟩, (F.terms.mono X.gg : TermsAt A _ t s), keepX F2.quotes (by intro _ _ _ z; cases z), ⟨as, keepX hdl (by intro _ _ _ z; cases z), pdl.imp fun _ _ z => z.mono x3.gg⟩, keepX F2.list (by intro _ _ _ z; cases z),
          pm.imp fun _ _ z => z.mono (Same.refl _) fun o' h' => e67.keep0 h', ⟨kvs, keepX hc (by intro _ _ _ z; cases z), fr⟩, upd_same, gX (some_ne hp2) F2.gp, gX (some_ne F2.quotes) F2.gq, gX (some_ne hdl) F2.gd, gX (some_ne F2.list) F2.gy, gX (some_ne hc) F2.gc, gs3, F.nd, F.qd, F.qy, F.dy, npys⟩
        rw [upd_same, List.length_map, hwl, ← isum_eq, feesTo_all, owedList_eq g]
        rfl
end
end My
set_option Elab.async false
set_option linter.all false
set_option maxRecDepth 100000
set_option maxHeartbeats 2000000
namespace My
open PySem PySem.Spec PyProof.Rows L2
open Vbfuam (State Deal Out Day Fix Book Right)
theorem zip_map_fold2 {β : Type} (f : Right → β) (g : Book → Day × β → Book) : ∀ (l : List Day) (rs : List Right) (k : Book), (l.zip (rs.map f)).foldl g k = (l.zip rs).foldl (fun k p => g k (p.1, f p.2)) k
  | [], _, _ => rfl
  | _ :: _, [], _ => rfl
  | d :: l, r :: rs, k => by
    show (l.zip (rs.map f)).foldl g (g k (d, f r)) = _
    rw [zip_map_fold2 f g l]
    rfl
section
variable {P : Program} {w : World} {K : PySem.W.Frag} {mg : Str → Option Value} {base : Heap} {A : Ad}
def spRightBook (A : Ad) : Sp := fun vs H Q _ => ∃ p t q d y c b ys s G, vs = [.ref p] ∧ Same G H ∧ FundIs A G H p t q d y c b ys s ∧ Good s ∧ ∀ bk l G' H', Ex [] G H G' H' → H bk = Option.none → H l = Option.none → BookAt A H' bk l (Vbfuam.rightBook s) → Q (.ref bk) H'
theorem ok_Fund_right_book (T : Txt K mg A) : CalM P w K mg base 8 A.cFund "right_book" ["self"] (spRightBook A) := by
  refine calM T.f_Fund_right_book T.cl_Fund sc_Fund_right_book (fun _ _ _ _ _ _ us hl => match us, hl with | [_], _ => rfl) (fun vs H Q E h => ?_) (fun f cdv A1 outer s0 H vs Q E hr h => ?_)
  · obtain ⟨p, t, q, d, y, c, b, ys, s, G, rfl, _⟩ := h
    rfl
  · obtain ⟨p, t, q, d, y, c, b, ys, s, G, rfl, sg, F, g, k⟩ := h
    obtain ⟨dp, hp⟩ := F.ins
    refine ⟨_, (pss_one (ps_ret (pe_fn (ok_book_behind T) (hr.mono (by decide)) rfl (pa_cons (pe_fld (pv 0) rfl) (pa_cons (pe_fld (pv 0) rfl) (pa_cons (pe_lc (te := (tFld K (tVar 1) "result")) rfl sc_Fund_right_book.nd (pi_list (pe_md0 (ok_Fund_history T) (hr.mono (by decide)) (pv 0))) (blkOk_by (own := [("right", 1)]) rfl) (fun _ _ _ _ _ => (pg_name (i := 1) sc_Fund_right_book.nd rfl (Or.inl rfl) (Or.inr rfl))) (fun _ _ _ _ _ => pts_nil) (fun _ _ _ _ _ => (pe_fld (pv 1) rfl))) pa_nil)))))), ?_⟩
    have rl := rights_len s
    have few := g.days
    refine ⟨_, rfl, p, A.cFund, dp, _, _, rfl, hp, T.cl_Fund, T.na_Fund_terms, rfl, _, rfl, p, A.cFund, dp, _, _, rfl, hp, T.cl_Fund, T.na_Fund_days, rfl, _, rfl, p, dp, _, rfl, hp, rfl, p, t, q, d, y, c, b, ys, s, G, rfl, sg, F, g, fun h hs G1 H1 e1 hh hH pr => ⟨h, rfl, ⟨_, SqL.of hH⟩,
      fun D hD => lc_list (K := K) (a := h) (xs := hs.map V.ref) (fun i H' => ∃ zs, Ex [] G1 H1 G1 H' ∧ Refs H' D zs ∧ P2 (fun a (x : Nat × List Out) => ResAt A G1 a x.1 x.2) zs (((Vbfuam.rights s).take i).map fun x => (x.fee, x.outs))) ⟨[], Ex.new e1.gh hD, upd_same, .nil⟩ ?_ ?_ ?_⟩⟩
    · rintro i H' hi ⟨zs, e, _⟩
      exact SqL.of (e.keep0 hH)
    · rintro i x H' hx ⟨zs, e, hD', pz⟩
      obtain ⟨a, ha, rfl⟩ := refs_get hx
      obtain ⟨r, hr1, rc, ff, rp, ⟨dxr, hr2⟩, hr3, hr4⟩ := pr.right ha
      have hil : i < (Vbfuam.rights s).length := (List.getElem?_eq_some_iff.mp hr1).1
      refine ⟨rfl, ?_⟩
      refine ⟨_, rfl, a, A.cRight, dxr, _, _, rfl, e.gh _ _ hr2, T.cl_RightDay, T.na_RightDay_result, rfl, _, hD', ?_, zs ++ [rp], ?_, ?_, ?_⟩
      · have hp := pz.len
        rw [List.length_map, List.length_take] at hp
        rw [List.length_map]
        exact Nat.lt_of_le_of_lt (show _ ≤ 60 by omega) (by decide)
      · exact (e.trans (Ex.put e.gh (e1.gh.free hD) (some_ne hD'))).drop (by simp [hD])
      · show upd _ _ _ _ = _
        rw [upd_same, List.map_append]
        rfl
      · rw [map_take _ hr1]
        exact P2.snoc (R := fun a (x : Nat × List Out) => ResAt A G1 a x.1 x.2) (a := rp) (b := (r.fee, r.outs)) hr4 pz
    · rintro H' ⟨zs, e, hD', pz⟩
      have l1 := pr.len
      rw [List.length_map, l1, List.take_length] at pz
      have F1 := F.keep0 e1
      have F2 := F1.keep0 e
      refine ⟨t, y, D, ys, zs, s, s.days, _, G1, rfl, e.gh, g, (F2.terms.mono e.gh), F2.list, F2.days, hD', pz, (by rw [List.length_map]; exact rl), g.day, fun bk l H2 e2 hb hl hB => ?_⟩
      refine k bk l G1 H2 (e1.trans0 (e.trans0 e2)) (e1.freeH (e.freeH hb)) (e1.freeH (e.freeH hl)) ?_
      rw [zip_map_fold2] at hB
      exact hB
def spOwedEach (A : Ad) : Sp := fun vs H Q _ => ∃ p t q d y c b ys s G, vs = [.ref p] ∧ Same G H ∧ FundIs A G H p t q d y c b ys s ∧ Good s ∧ ∀ o G' H', Ex [] G H G' H' → H o = Option.none → Ints H' o (Vbfuam.holders.map (Vbfuam.owedBy s)) → Q (.ref o) H'
theorem ok_Fund_owed_to_each (T : Txt K mg A) : CalM P w K mg base 8 A.cFund "owed_to_each" ["self"] (spOwedEach A) := by
  refine calM T.f_Fund_owed_to_each T.cl_Fund sc_Fund_owed_to_each (fun _ _ _ _ _ _ us hl => match us, hl with | [_], _ => rfl) (fun vs H Q E h => ?_) (fun f cdv A1 outer s0 H vs Q E hr h => ?_)
  · obtain ⟨p, t, q, d, y, c, b, ys, s, G, rfl, _⟩ := h
    rfl
  · obtain ⟨p, t, q, d, y, c, b, ys, s, G, rfl, sg, F, g, k⟩ := h
    obtain ⟨dp, hp⟩ := F.ins
    refine ⟨_, (pss_one (ps_ret (pe_fn (ok_owed_to_holders T) (hr.mono (by decide)) rfl (pa_cons (pe_fld (pv 0) rfl) (pa_cons (pe_md0 (ok_Fund_history T) (hr.mono (by decide)) (pv 0)) pa_nil))))), ?_⟩
    refine ⟨_, rfl, p, A.cFund, dp, _, _, rfl, hp, T.cl_Fund, T.na_Fund_days, rfl, _, rfl, p, dp, _, rfl, hp, rfl, p, t, q, d, y, c, b, ys, s, G, rfl, sg, F, g, fun h hs G1 H1 e1 hh hH pr => ?_⟩
    have F1 := F.keep0 e1
    refine ⟨y, h, ys, hs, s.days, Vbfuam.rights s, G1, rfl, e1.gh, F1.list, F1.days, hH, pr, rights_len s, g.day, fun o H2 e2 ho hO => ?_⟩
    refine k o G1 H2 (e1.trans0 e2) (e1.freeH ho) ?_
    rw [← owedList_eq g]
    exact hO
end
end My
set_option Elab.async false
set_option linter.all false
set_option maxRecDepth 100000
set_option maxHeartbeats 2000000
namespace My
open PySem PySem.Spec PyProof.Rows L2
open Vbfuam (State Deal Out Day Fix Book Right)
def own (p q d y c : Addr) (ys : List Addr) : List Addr := p :: q :: d :: y :: c :: ys
def FAt (A : Ad) (G H : Hp) (M : List Addr) (p : Addr) (s : State) : Prop := ∃ t q d y c b ys, FundIs A G H p t q d y c b ys s ∧ ∀ a ∈ own p q d y c ys, a ∈ M
theorem FAt.keep0 {A : Ad} {G H G' H' : Hp} {M : List Addr} {p : Addr} {s : State} (F : FAt A G H M p s) (e : Ex [] G H G' H') : FAt A G' H' M p s :=
  let ⟨t, q, d, y, c, b, ys, F, h⟩ := F; ⟨t, q, d, y, c, b, ys, F.keep0 e, h⟩
def Kont (A : Ad) (G H : Hp) (M : List Addr) (p : Addr) (s : State) (cl : Vbfuam.Call) (Q : VK) : Prop := ∀ l G' H' M', Ex M G H G' H' → (∀ a ∈ M', a ∈ M ∨ H a = Option.none) → H l = Option.none → G' l = Option.none →
  Ints H' l (Vbfuam.step s cl).2 → FAt A G' H' M' p (Vbfuam.step s cl).1 → Good (Vbfuam.step s cl).1 → Q (.ref l) H'
def spAns (A : Ad) (W : Hp → Hp → Addr → Vbfuam.Call → Prop) : Sp := fun vs H Q _ => ∃ p tl G M s cl, vs = [.ref p, .ref tl] ∧ Same G H ∧ FAt A G H M p s ∧ Good s ∧ W G H tl cl ∧ Kont A G H M p s cl Q
theorem spAns_len {A : Ad} {W : Hp → Hp → Addr → Vbfuam.Call → Prop} : ∀ vs H Q E, spAns A W vs H Q E → vs.length = 2 := fun vs H Q E h => by
  obtain ⟨p, tl, G, M, s, cl, rfl, _⟩ := h
  rfl
theorem Kont.same {A : Ad} {G H G1 H1 : Hp} {M : List Addr} {p : Addr} {s : State} {cl : Vbfuam.Call} {Q : VK} (k : Kont A G H M p s cl Q) (F : FAt A G H M p s) (g : Good s) (e : Ex [] G H G1 H1) {ans : List Int} (hs : Vbfuam.step s cl = (s, ans)) {l : Addr} (hl : H1 l = Option.none) :
    Q (.ref l) (upd H1 l (.lst (ans.map V.int))) := by
  have e2 : Ex [] G1 H1 G1 (upd H1 l (.lst (ans.map V.int))) := Ex.new e.gh hl
  refine k l G1 _ M (e.trans0 e2).w0 (fun a h => .inl h) (e.freeH hl) (e.gh.free hl) ?_ ?_ ?_
  · rw [hs]
    exact upd_same
  · rw [hs]
    exact F.keep0 (e.trans0 e2)
  · rw [hs]
    exact g
theorem Kont.no {A : Ad} {G H G1 H1 : Hp} {M : List Addr} {p : Addr} {s : State} {cl : Vbfuam.Call} {Q : VK} (k : Kont A G H M p s cl Q) (F : FAt A G H M p s) (g : Good s) (e : Ex [] G H G1 H1) {n : Nat} {z : Int} (hz : z = -(n : Int)) (hs : Vbfuam.step s cl = Vbfuam.no s n) {l : Addr} (hl : H1 l = Option.none) :
    Q (.ref l) (upd H1 l (.lst [.int z])) := by
  subst hz
  exact k.same F g e (ans := [-(n : Int)]) hs hl
theorem rd_in {lo n hi : Int} {Q : VK} {H : Hp} (q : Q (.bl (Vbfuam.inside n lo hi)) H) :
    (rI0 fun i j => V.bl (decide (i ≤ j))) (.int lo) (.int n) H (fun z H3 => ∃ k, z = .bl k ∧ if k = true then (rI0 fun i j => V.bl (decide (i ≤ j))) (.int n) (.int hi) H3 Q else Q (.bl false) H3) := by
  refine ⟨lo, n, rfl, rfl, _, rfl, ?_⟩
  unfold Vbfuam.inside at q
  by_cases h : lo ≤ n
  · rw [if_pos (decide_eq_true h)]
    rw [decide_eq_true h, Bool.true_and] at q
    exact ⟨n, hi, rfl, rfl, q⟩
  · rw [if_neg (by rw [decide_eq_false h]; exact Bool.false_ne_true)]
    rw [decide_eq_false h, Bool.false_and] at q
    exact q
theorem rd_inT {lo n hi : Int} {F : Bool → Hp → Prop} {H : Hp} (q : F (Vbfuam.inside n lo hi) H) :
    (rI0 fun i j => V.bl (decide (i ≤ j))) (.int lo) (.int n) H (fun z H3 => ∃ k, z = .bl k ∧ if k = true then (rI0 fun i j => V.bl (decide (i ≤ j))) (.int n) (.int hi) H3 (fun x H' => ∃ k, x = V.bl k ∧ F k H') else ∃ k, V.bl false = V.bl k ∧ F k H3) :=
  rd_in (Q := fun x H' => ∃ k, x = V.bl k ∧ F k H') ⟨_, rfl, q⟩
theorem at0 {a : V} {l : List V} : atI (a :: l) 0 = some a := atI_nat (j := 0) rfl
theorem at1 {a b : V} {l : List V} : atI (a :: b :: l) 1 = some b := atI_nat (j := 1) rfl
theorem at2 {a b c : V} {l : List V} : atI (a :: b :: c :: l) 2 = some c := atI_nat (j := 2) rfl
theorem at3 {a b c d : V} {l : List V} : atI (a :: b :: c :: d :: l) 3 = some d := atI_nat (j := 3) rfl
theorem at4 {a b c d e : V} {l : List V} : atI (a :: b :: c :: d :: e :: l) 4 = some e := atI_nat (j := 4) rfl
section
variable {P : Program} {w : World} {K : PySem.W.Frag} {mg : Str → Option Value} {base : Heap} {A : Ad}
def spIn (lo hi : Int) : Sp := fun vs H Q _ => ∃ n, vs = [.int n] ∧ Q (.bl (Vbfuam.inside n lo hi)) H
theorem ok_is_thing (T : Txt K mg A) : CalF P w K mg base 1 "is_thing" ["thing"] (spIn 1 6) := by
  refine calF T.f_is_thing sc_is_thing (fun _ _ _ _ _ _ us hl => match us, hl with | [_], _ => rfl) (fun vs H Q E h => ?_) (fun f cdv A1 outer s0 H vs Q E hr h => ?_)
  · obtain ⟨n, rfl, _⟩ := h
    rfl
  · obtain ⟨n, rfl, q⟩ := h
    exact ⟨_, (pss_one (ps_ret (pe_chain op_le op_le pe_int (pv 0) (pe_gi T.g_THINGS rfl)))), _, rfl, rd_in q⟩
theorem ok_is_holder (T : Txt K mg A) : CalF P w K mg base 1 "is_holder" ["holder"] (spIn 1 10) := by
  refine calF T.f_is_holder sc_is_holder (fun _ _ _ _ _ _ us hl => match us, hl with | [_], _ => rfl) (fun vs H Q E h => ?_) (fun f cdv A1 outer s0 H vs Q E hr h => ?_)
  · obtain ⟨n, rfl, _⟩ := h
    rfl
  · obtain ⟨n, rfl, q⟩ := h
    exact ⟨_, (pss_one (ps_ret (pe_chain op_le op_le pe_int (pv 0) (pe_gi T.g_HOLDERS rfl)))), _, rfl, rd_in q⟩
theorem ok_is_quote (T : Txt K mg A) : CalF P w K mg base 1 "is_quote" ["quote"] (spIn 0 1000000000000) := by
  refine calF T.f_is_quote sc_is_quote (fun _ _ _ _ _ _ us hl => match us, hl with | [_], _ => rfl) (fun vs H Q E h => ?_) (fun f cdv A1 outer s0 H vs Q E hr h => ?_)
  · obtain ⟨n, rfl, _⟩ := h
    rfl
  · obtain ⟨n, rfl, q⟩ := h
    exact ⟨_, (pss_one (ps_ret (pe_chain op_le op_le pe_int (pv 0) (pe_gi T.g_MOST_QUOTE rfl)))), _, rfl, rd_in q⟩
def spRow (A : Ad) : Sp := fun vs H Q _ => ∃ r n m xs G, vs = [.ref r, .int n, .int m] ∧ Same G H ∧ Ints H r xs ∧ xs.length ≤ 400 ∧ ∀ H', Ex [] G H G H' → Q (.bl (decide ((xs.length : Int) = n) && xs.all fun x => Vbfuam.inside x 0 m)) H'
theorem ok_is_row (T : Txt K mg A) : CalF P w K mg base 1 "is_row" ["row", "length", "most"] (spRow A) := by
  refine calF T.f_is_row sc_is_row (fun _ _ _ _ _ _ us hl => match us, hl with | [_, _, _], _ => rfl) (fun vs H Q E h => ?_) (fun f cdv A1 outer s0 H vs Q E hr h => ?_)
  · obtain ⟨r, n, m, xs, G, rfl, _⟩ := h
    rfl
  · obtain ⟨r, n, m, xs, G, rfl, sg, hr0, hlen, k⟩ := h
    refine ⟨_, (pss_one (ps_ret (pe_and (pe_cmpR op_eq (pe_callB call_len_seq (by rfl) T.b_len PySem.boot_len (pa_cons (pv 0) pa_nil)) (pv 1) (nomark _)) (pe_one (pe_callB (cr_all rfl) (by rfl) T.b_all PyProof.Rows.boot_all (pa_cons (pe_lc rfl sc_is_row.nd (pi_list (pv 0)) (blkOk_by (own := [("number", 3)]) rfl) (fun _ _ _ _ _ => (pg_name (i := 3) sc_is_row.nd rfl (Or.inl rfl) (Or.inr rfl))) (fun _ _ _ _ _ => pts_nil) (fun _ _ _ _ _ => (pe_chain op_le op_le pe_int (pv 3) (pv 2)))) pa_nil)))))), ?_⟩
    refine ⟨_, rfl, r, _, rfl, .inl (SqL.of hr0), _, rfl, rfl, _, rfl, ite2 (fun hn => ?_) (fun hn => ?_)⟩
    · have hn1 : (xs.length : Int) = n := by
        have z : V.int (((xs.map V.int).length : Nat) : Int) = V.int n := of_decide_eq_true hn
        rw [List.length_map] at z
        exact V.int.inj z
      rw [decide_eq_true hn1] at k
      refine ⟨_, rfl, r, rfl, ⟨_, SqL.of hr0⟩, fun D hD => lc_list (K := K) (a := r) (xs := xs.map V.int) (fun i H' => Ex [] G H G H' ∧ H' D = some (.lst (((xs.take i).map fun x => Vbfuam.inside x 0 m).map V.bl))) ⟨Ex.new sg hD, upd_same⟩ ?_ ?_ ?_⟩
      · rintro i H' hi ⟨e, _⟩
        exact SqL.of (e.keep0 hr0)
      · rintro i x H' hx ⟨e, hD'⟩
        rw [List.getElem?_map] at hx
        cases ha : xs[i]? with
        | none =>
          rw [ha] at hx
          cases hx
        | some a =>
          rw [ha] at hx
          cases hx
          refine ⟨rfl, ?_⟩
          have key : ∀ bb : Bool, bb = Vbfuam.inside a 0 m → ∃ acc, H' D = some (.lst acc) ∧ acc.length < sizeLine ∧ Ex [] G H G (upd H' D (.lst (acc ++ [.bl bb]))) ∧ (upd H' D (.lst (acc ++ [.bl bb]))) D = some (.lst (((xs.take (i + 1)).map fun x => Vbfuam.inside x 0 m).map V.bl)) := fun bb hbb => by
            refine ⟨_, hD', ?_, ?_, ?_⟩
            · rw [List.length_map, List.length_map, List.length_take]
              exact Nat.lt_of_le_of_lt (show _ ≤ 400 by omega) (by decide)
            · exact (e.trans (Ex.put e.gh (sg.free hD) (some_ne hD'))).drop (by simp [hD])
            · rw [upd_same, map_take _ ha, List.map_append, hbb]
              rfl
          refine ⟨_, rfl, 0, a, rfl, rfl, _, rfl, ?_⟩
          by_cases h0 : 0 ≤ a
          · rw [if_pos (decide_eq_true h0)]
            refine ⟨_, rfl, a, m, rfl, rfl, key _ ?_⟩
            unfold Vbfuam.inside
            (rw [decide_eq_true h0, Bool.true_and])
          · rw [if_neg (by rw [decide_eq_false h0]; exact Bool.false_ne_true)]
            refine key _ ?_
            unfold Vbfuam.inside
            rw [decide_eq_false h0, Bool.false_and]
      · rintro H' ⟨e, hD'⟩
        rw [List.length_map, List.take_length] at hD'
        refine ⟨D, _, rfl, SqL.of hD', ?_⟩
        have ha : (xs.map fun x => Vbfuam.inside x 0 m).all id = xs.all fun x => Vbfuam.inside x 0 m := by
          rw [List.all_map]
          rfl
        rw [ha]
        exact k H' e
    · have hn1 : ¬ (xs.length : Int) = n := fun z => hn (by
        show decide (V.int (((xs.map V.int).length : Nat) : Int) = V.int n) = true
        rw [List.length_map, z]
        simp)
      rw [decide_eq_false hn1] at k
      exact k H (Ex.refl sg)
def refusal (s : State) (n : Int) : Int := if Vbfuam.inside n 1 60 = false then -1 else if (s.days.length : Int) < n then -4 else 0
def spRefusal (A : Ad) : Sp := fun vs H Q _ => ∃ p M s n G, vs = [.ref p, .int n] ∧ FAt A G H M p s ∧ Q (.int (refusal s n)) H
theorem ok_day_refusal (T : Txt K mg A) : CalF P w K mg base 1 "day_refusal" ["fund", "number"] (spRefusal A) := by
  refine calF T.f_day_refusal sc_day_refusal (fun _ _ _ _ _ _ us hl => match us, hl with | [_, _], _ => rfl) (fun vs H Q E h => ?_) (fun f cdv A1 outer s0 H vs Q E hr h => ?_)
  · obtain ⟨p, M, s, n, G, rfl, _⟩ := h
    rfl
  · obtain ⟨p, M, s, n, G, rfl, ⟨t, q, d, y, c, b, ys, F, hM⟩, k⟩ := h
    obtain ⟨dp, hp⟩ := F.ins
    have l0 := F.days.len
    refine ⟨_, (pss_cons (ps_if (pt_not (pt_chain op_le op_le pe_int (pv 1) (pe_gi T.g_MOST_DAYS rfl))) (pss_one (ps_ret (pe_gi T.g_OUT_OF_RANGE rfl))) pss_nil)
      (pss_cons (ps_if (pt_cmpR op_gt (pv 1) (pe_callB call_len_seq (by rfl) T.b_len PySem.boot_len (pa_cons (pe_fld (pv 0) rfl) pa_nil)) (nomark _)) (pss_one (ps_ret (pe_gi T.g_NOT_THERE rfl))) pss_nil)
      (pss_one (ps_ret pe_int)))), ?_⟩
    unfold refusal at k
    refine ⟨_, rfl, rd_inT ?_⟩
    cases hin : Vbfuam.inside n 1 60 with
    | false =>
      rw [if_pos hin] at k
      exact iteT k
    | true =>
      rw [if_neg (by rw [hin]; exact fun z => nomatch z)] at k
      refine iteF ?_
      refine ⟨_, rfl, _, rfl, p, A.cFund, dp, _, _, rfl, hp, T.cl_Fund, T.na_Fund_days, rfl, y, _, rfl, .inl (SqL.of F.list), _, _, rfl, rfl, _, rfl, ?_⟩
      rw [List.length_map, l0]
      by_cases h : (s.days.length : Int) < n
      · rw [if_pos h] at k
        rw [decide_eq_true h]
        exact iteT k
      · rw [if_neg h] at k
        rw [decide_eq_false h]
        exact iteF k
def wQuote (G H : Hp) (tl : Addr) (cl : Vbfuam.Call) : Prop := ∃ i p, cl = .quote i p ∧ Ints H tl [i, p]
theorem ok_answer_quote (T : Txt K mg A) : CalF P w K mg base 2 "answer_quote" ["fund", "told"] (spAns A wQuote) := by
  refine calF T.f_answer_quote sc_answer_quote (fun _ _ _ _ _ _ us hl => match us, hl with | [_, _], _ => rfl) spAns_len (fun f cdv A1 outer s0 H vs Q E hr h => ?_)
  obtain ⟨p, tl, G, M, s, cl, rfl, sg, F0, g, ⟨i, n, rfl, ht⟩, k⟩ := h
  obtain ⟨t, q, d, y, c, b, ys, F, hM⟩ := id F0
  obtain ⟨dp, hp⟩ := F.ins
  refine ⟨_, (pss_cons (ps_set (i := 2) sc_answer_quote.nd rfl (Or.inl rfl) (pe_ix ix_list (pv 1) pe_int (fun _ _ => rfl)))
      (pss_cons (ps_set (i := 3) sc_answer_quote.nd rfl (Or.inl rfl) (pe_ix ix_list (pv 1) pe_int (fun _ _ => rfl)))
      (pss_cons (ps_if (pt_not (PW.pt (pw_and (pt_val (pe_fn (ok_is_thing T) (hr.mono (by decide)) rfl (pa_cons (pv 2) pa_nil))) (pw_and1 (pt_val (pe_fn (ok_is_quote T) (hr.mono (by decide)) rfl (pa_cons (pv 3) pa_nil))))))) (pss_one (ps_ret (pe_lst (pa_cons (pe_gi T.g_OUT_OF_RANGE rfl) pa_nil)))) pss_nil)
      (pss_cons (ps_set (i := 4) sc_answer_quote.nd rfl (Or.inl rfl) (pe_ix ix_list (pe_fld (pv 0) rfl) (pe_op op_sub (pv 2) pe_int) (fun _ _ => rfl)))
      (pss_cons (ps_asg (pv 3) (pg_sub (pe_fld (pv 0) rfl) (pe_op op_sub (pv 2) pe_int) set_list))
      (pss_one (ps_ret (pe_lst (pa_cons (pv 4) pa_nil))))))))), ?_⟩
  refine ⟨_, rfl, tl, _, _, _, rfl, rfl, SqL.of ht, at0, ?_⟩
  refine ⟨_, rfl, tl, _, _, _, rfl, rfl, SqL.of ht, at1, ?_⟩
  refine ⟨_, rfl, i, rfl, _, rfl, ?_⟩
  have e0 := Ex.refl sg
  cases hi : Vbfuam.inside i 1 6 with
  | false =>
    refine iteF (iteT ⟨(by show 1 ≤ sizeLine; decide), fun l hl => k.no F0 g e0 (n := 1) rfl ?_ hl⟩)
    show (if Vbfuam.isThing i = false ∨ Vbfuam.isQuote n = false then Vbfuam.no s 1 else _) = _
    rw [if_pos (.inl hi)]
  | true =>
    refine iteT ⟨_, rfl, n, rfl, _, rfl, ?_⟩
    cases hn : Vbfuam.inside n 0 1000000000000 with
    | false =>
      refine iteT ⟨(by show 1 ≤ sizeLine; decide), fun l hl => k.no F0 g e0 (n := 1) rfl ?_ hl⟩
      show (if Vbfuam.isThing i = false ∨ Vbfuam.isQuote n = false then Vbfuam.no s 1 else _) = _
      rw [if_pos (.inr hn)]
    | true =>
      have hst : Vbfuam.step s (.quote i n) = ({ s with quotes := s.quotes.set (i.toNat - 1) n.toNat }, [((s.quotes.getD (i.toNat - 1) 0 : Nat) : Int)]) := by
        show (if Vbfuam.isThing i = false ∨ Vbfuam.isQuote n = false then Vbfuam.no s 1 else _) = _
        rw [if_neg (by
          intro z
          rcases z with z | z
          · exact absurd (hi.symm.trans z) (by decide)
          · exact absurd (hn.symm.trans z) (by decide))]
        rfl
      obtain ⟨i1, i2⟩ := inside_iff.mp hi
      obtain ⟨n1, n2⟩ := inside_iff.mp hn
      have ql := g.quotes.len
      have ei : i - 1 = ((i.toNat - 1 : Nat) : Int) := by omega
      have hql : i.toNat - 1 < s.quotes.length := by omega
      have hget : (s.quotes.map nV)[i.toNat - 1]? = some (nV (s.quotes.getD (i.toNat - 1) 0)) := by
        rw [List.getElem?_map, List.getElem?_eq_getElem hql]
        simp [List.getD, hql]
      refine iteF ?_
      refine ⟨_, rfl, p, A.cFund, dp, _, _, rfl, hp, T.cl_Fund, T.na_Fund_quotes, rfl, _, rfl, _, _, rfl, rfl, q, _, _, _, rfl, rfl, SqL.of F.quotes, at_of (j := i.toNat - 1) ei hget, ?_⟩
      refine ⟨_, rfl, _, rfl, p, A.cFund, dp, _, _, rfl, hp, T.cl_Fund, T.na_Fund_quotes, rfl, _, rfl, _, _, rfl, rfl, q, _, _, i.toNat - 1, rfl, rfl, F.quotes, (by rw [List.length_map, ei]; exact ixN_nat hql), ?_⟩
      refine ⟨_, rfl, (by show 1 ≤ sizeLine; decide), fun l hl => ?_⟩
      have qM : q ∈ M := hM q (by simp [own])
      have e1 := Ex.put (o := .lst ((s.quotes.map nV).set (i.toNat - 1) (.int n))) sg F.gq (some_ne F.quotes)
      have e2 := Ex.new (o := .lst [nV (s.quotes.getD (i.toNat - 1) 0)]) e1.gh hl
      have E : Ex [q] G H G _ := e1.trans e2
      have nqp : q ≠ p := ne_of F.quotes hp (by intro z; cases z)
      obtain ⟨as, hd, pd⟩ := F.deals
      obtain ⟨kvs, hc, fr⟩ := F.fixes
      have ncq : c ≠ q := ne_of hc F.quotes (by intro z; cases z)
      refine k l G _ M (E.weak (by simp [qM])) (fun a h => .inl h) (e1.freeH hl) (e1.gh.free hl) ?_ ?_ ?_
      · rw [hst]
        exact upd_same
      · rw [hst]
        refine ⟨t, q, d, y, c, b, ys, ⟨⟨dp, E.keep hp (show p ∉ [q] from by simp; exact nqp.symm)⟩, (F.terms : TermsAt A G t s), ?_, ⟨as, E.keep hd (show d ∉ [q] from by simp; exact F.qd.symm), pd⟩, E.keep F.list (show y ∉ [q] from by simp; exact F.qy.symm), ?_, ⟨kvs, E.keep hc (show c ∉ [q] from by simp; exact ncq), fr⟩, F.net, F.gp, F.gq, F.gd, F.gy, F.gc, F.gs, F.nd, F.qd, F.qy, F.dy, F.pys⟩, hM⟩
        · show _ = some (HO.lst ((s.quotes.set (i.toNat - 1) n.toNat).map nV))
          refine (e2.keep0 upd_same).trans ?_
          rw [List.map_set]
          have en : nV n.toNat = V.int n := congrArg V.int (show ((n.toNat : Nat) : Int) = n by omega)
          rw [en]
        · refine F.days.impMem fun a dd ha z => z.mono (Same.refl G) fun o h' => E.keep h' (show a ∉ [q] from ?_)
          simp
          intro w
          obtain ⟨_, _, _, _, _, ⟨_, hda⟩, _⟩ := z
          rw [w, F.quotes] at hda
          cases hda
      · rw [hst]
        exact good_quote g (by omega)
end
end My
set_option Elab.async false
set_option linter.all false
set_option maxRecDepth 100000
set_option maxHeartbeats 2000000
namespace My
open PySem PySem.Spec PyProof.Rows L2
open Vbfuam (State Deal Out Day Fix Book Right)
theorem nV_toNat {n : Int} (h : 0 ≤ n) : nV n.toNat = V.int n := congrArg V.int (show ((n.toNat : Nat) : Int) = n by omega)
theorem refusal_cases (s : State) (n : Int) : (refusal s n = -1 ∧ Vbfuam.inside n 1 60 = false) ∨ (refusal s n = -4 ∧ Vbfuam.inside n 1 60 = true ∧ s.days[n.toNat - 1]? = Option.none) ∨ (refusal s n = 0 ∧ Vbfuam.inside n 1 60 = true ∧ ∃ d, s.days[n.toNat - 1]? = some d) := by
  unfold refusal
  cases h : Vbfuam.inside n 1 60 with
  | false => exact .inl ⟨by simp, rfl⟩
  | true =>
    obtain ⟨h1, h2⟩ := inside_iff.mp h
    by_cases h3 : (s.days.length : Int) < n
    · refine .inr (.inl ⟨?_, rfl, List.getElem?_eq_none (by omega)⟩)
      rw [if_neg (fun z => nomatch z), if_pos h3]
    · refine .inr (.inr ⟨?_, rfl, _, List.getElem?_eq_getElem (show n.toNat - 1 < s.days.length by omega)⟩)
      rw [if_neg (fun z => nomatch z), if_neg h3]
theorem onDay1 {s : State} {n : Int} {f : Nat → Day → State × Vbfuam.Ans} (h : Vbfuam.inside n 1 60 = false) : Vbfuam.onDay s n f = Vbfuam.no s 1 := by
  unfold Vbfuam.onDay
  rw [if_pos h]
theorem onDay4 {s : State} {n : Int} {f : Nat → Day → State × Vbfuam.Ans} (h : Vbfuam.inside n 1 60 = true) (h2 : s.days[n.toNat - 1]? = Option.none) : Vbfuam.onDay s n f = Vbfuam.no s 4 := by
  unfold Vbfuam.onDay
  rw [if_neg (by rw [h]; exact fun z => nomatch z), h2]
theorem onDay0 {s : State} {n : Int} {f : Nat → Day → State × Vbfuam.Ans} {d : Day} (h : Vbfuam.inside n 1 60 = true) (h2 : s.days[n.toNat - 1]? = some d) : Vbfuam.onDay s n f = f n.toNat d := by
  unfold Vbfuam.onDay
  rw [if_neg (by rw [h]; exact fun z => nomatch z), h2]
theorem step_day (s : State) (n : Int) : Vbfuam.step s (.day n) = Vbfuam.onDay s n fun _ x => Vbfuam.yes s [x.value, x.units, (x.fee : Int), (x.feeNow : Int), (x.deals.length : Nat)] := rfl
theorem step_right (s : State) (n : Int) : Vbfuam.step s (.right n) = Vbfuam.onDay s n fun n _ => match (Vbfuam.rights s)[n - 1]? with
    | none => Vbfuam.no s 4
    | some r => Vbfuam.yes s [(if r.wrong = true then 1 else 0), r.value, r.units, (r.fee : Int)] := rfl
section
variable {P : Program} {w : World} {K : PySem.W.Frag} {mg : Str → Option Value} {base : Heap} {A : Ad}
def wDay (G H : Hp) (tl : Addr) (cl : Vbfuam.Call) : Prop := ∃ n, cl = .day n ∧ Ints H tl [n]
theorem ok_answer_day (T : Txt K mg A) : CalF P w K mg base 2 "answer_day" ["fund", "told"] (spAns A wDay) := by
  refine calF T.f_answer_day sc_answer_day (fun _ _ _ _ _ _ us hl => match us, hl with | [_, _], _ => rfl) spAns_len (fun f cdv A1 outer s0 H vs Q E hr h => ?_)
  obtain ⟨p, tl, G, M, s, cl, rfl, sg, F0, g, ⟨n, rfl, ht⟩, k⟩ := h
  obtain ⟨t, q, d, y, c, b, ys, F, hM⟩ := id F0
  obtain ⟨dp, hp⟩ := F.ins
  refine ⟨_, (pss_cons (ps_set (i := 2) sc_answer_day.nd rfl (Or.inl rfl) (pe_ix ix_list (pv 1) pe_int (fun _ _ => rfl)))
      (pss_cons (ps_set (i := 3) sc_answer_day.nd rfl (Or.inl rfl) (pe_fn (ok_day_refusal T) (hr.mono (by decide)) rfl (pa_cons (pv 0) (pa_cons (pv 2) pa_nil))))
      (pss_cons (ps_if (pt_cmpR op_lt (pv 3) pe_int (nomark _)) (pss_one (ps_ret (pe_lst (pa_cons (pv 3) pa_nil)))) pss_nil)
      (pss_cons (ps_set (i := 4) sc_answer_day.nd rfl (Or.inl rfl) (pe_ix ix_list (pe_fld (pv 0) rfl) (pe_op op_sub (pv 2) pe_int) (fun _ _ => rfl)))
      (pss_cons (ps_set (i := 5) sc_answer_day.nd rfl (Or.inl rfl) (pe_fld (pv 4) rfl))
      (pss_one (ps_ret (pe_lst (pa_cons (pe_fld (pv 5) rfl) (pa_cons (pe_fld (pv 5) rfl) (pa_cons (pe_fld (pv 5) rfl) (pa_cons (pe_fld (pe_fld (pv 4) rfl) rfl) (pa_cons (pe_callB call_len_seq (by rfl) T.b_len PySem.boot_len (pa_cons (pe_fld (pv 4) rfl) pa_nil)) pa_nil))))))))))))), ?_⟩
  have e0 := Ex.refl sg
  refine ⟨_, rfl, tl, _, _, _, rfl, rfl, SqL.of ht, at0, ?_⟩
  refine ⟨_, rfl, _, rfl, p, M, s, n, G, rfl, F0, ?_⟩
  refine ⟨_, rfl, _, _, rfl, rfl, _, rfl, ?_⟩
  rcases refusal_cases s n with ⟨h1, h2⟩ | ⟨h1, h2, h3⟩ | ⟨h1, h2, x, h3⟩
  · rw [h1]
    exact iteT ⟨_, rfl, (by show 1 ≤ sizeLine; decide), fun l hl => k.no F0 g e0 (n := 1) rfl ((step_day s n).trans (onDay1 h2)) hl⟩
  · rw [h1]
    exact iteT ⟨_, rfl, (by show 1 ≤ sizeLine; decide), fun l hl => k.no F0 g e0 (n := 4) rfl ((step_day s n).trans (onDay4 h2 h3)) hl⟩
  · rw [h1]
    refine iteF ?_
    obtain ⟨ay, hay, yq, yl, yr, yp, yst, ⟨dy, hy⟩, y1, ⟨as, hyl, pd⟩, ⟨dr, hyr⟩, y4, ⟨ol, ⟨dst, hst⟩, hol⟩⟩ := F.days.left h3
    obtain ⟨i1, i2⟩ := inside_iff.mp h2
    have l0 := pd.len
    refine ⟨_, rfl, p, A.cFund, dp, _, _, rfl, hp, T.cl_Fund, T.na_Fund_days, rfl, _, rfl, _, _, rfl, rfl, y, _, _, _, rfl, rfl, SqL.of F.list, at_of (j := n.toNat - 1) (by omega) (get_refs hay), ?_⟩
    refine ⟨_, rfl, ay, A.cDay, dy, _, _, rfl, hy, T.cl_ClosedDay, T.na_ClosedDay_reckoning, rfl, ?_⟩
    refine ⟨_, rfl, yr, A.cRec, dr, _, _, rfl, sg _ _ hyr, T.cl_Reckoning, T.na_Reckoning_value, rfl, _, rfl, yr, A.cRec, dr, _, _, rfl, sg _ _ hyr, T.cl_Reckoning, T.na_Reckoning_units, rfl, _, rfl, yr, A.cRec, dr, _, _, rfl, sg _ _ hyr, T.cl_Reckoning, T.na_Reckoning_fee, rfl,
      _, rfl, ay, A.cDay, dy, _, _, rfl, hy, T.cl_ClosedDay, T.na_ClosedDay_standing, rfl, yst, A.cRes, dst, _, _, rfl, sg _ _ hst, T.cl_DayResult, T.na_DayResult_fee, rfl, _, rfl, ay, A.cDay, dy, _, _, rfl, hy, T.cl_ClosedDay, T.na_ClosedDay_deals, rfl, yl, _, rfl, .inl (SqL.of (sg _ _ hyl)), (by show 5 ≤ sizeLine; decide), fun l hl => ?_⟩
    rw [List.length_map, l0]
    exact k.same F0 g e0 (ans := [x.value, x.units, (x.fee : Int), (x.feeNow : Int), ((x.deals.length : Nat) : Int)]) ((step_day s n).trans (onDay0 h2 h3)) hl
def wRight (G H : Hp) (tl : Addr) (cl : Vbfuam.Call) : Prop := ∃ n, cl = .right n ∧ Ints H tl [n]
theorem ok_answer_right (T : Txt K mg A) : CalF P w K mg base 8 "answer_right" ["fund", "told"] (spAns A wRight) := by
  refine calF T.f_answer_right sc_answer_right (fun _ _ _ _ _ _ us hl => match us, hl with | [_, _], _ => rfl) spAns_len (fun f cdv A1 outer s0 H vs Q E hr h => ?_)
  obtain ⟨p, tl, G, M, s, cl, rfl, sg, F0, g, ⟨n, rfl, ht⟩, k⟩ := h
  obtain ⟨t, q, d, y, c, b, ys, F, hM⟩ := id F0
  obtain ⟨dp, hp⟩ := F.ins
  refine ⟨_, (pss_cons (ps_set (i := 2) sc_answer_right.nd rfl (Or.inl rfl) (pe_ix ix_list (pv 1) pe_int (fun _ _ => rfl)))
      (pss_cons (ps_set (i := 3) sc_answer_right.nd rfl (Or.inl rfl) (pe_fn (ok_day_refusal T) (hr.mono (by decide)) rfl (pa_cons (pv 0) (pa_cons (pv 2) pa_nil))))
      (pss_cons (ps_if (pt_cmpR op_lt (pv 3) pe_int (nomark _)) (pss_one (ps_ret (pe_lst (pa_cons (pv 3) pa_nil)))) pss_nil)
      (pss_cons (ps_set (i := 4) sc_answer_right.nd rfl (Or.inl rfl) (pe_ix ix_list (pe_md0 (ok_Fund_history T) (hr.mono (by decide)) (pv 0)) (pe_op op_sub (pv 2) pe_int) (fun _ _ => rfl)))
      (pss_one (ps_ret (pe_lst (pa_cons (pe_ifExp (pt_val (pe_fld (pv 4) rfl)) pe_int pe_int) (pa_cons (pe_fld (pe_fld (pv 4) rfl) rfl) (pa_cons (pe_fld (pe_fld (pv 4) rfl) rfl) (pa_cons (pe_fld (pe_fld (pv 4) rfl) rfl) pa_nil))))))))))), ?_⟩
  have e0 := Ex.refl sg
  refine ⟨_, rfl, tl, _, _, _, rfl, rfl, SqL.of ht, at0, ?_⟩
  refine ⟨_, rfl, _, rfl, p, M, s, n, G, rfl, F0, ?_⟩
  refine ⟨_, rfl, _, _, rfl, rfl, _, rfl, ?_⟩
  rcases refusal_cases s n with ⟨h1, h2⟩ | ⟨h1, h2, h3⟩ | ⟨h1, h2, x, h3⟩
  · rw [h1]
    exact iteT ⟨_, rfl, (by show 1 ≤ sizeLine; decide), fun l hl => k.no F0 g e0 (n := 1) rfl ((step_right s n).trans (onDay1 h2)) hl⟩
  · rw [h1]
    exact iteT ⟨_, rfl, (by show 1 ≤ sizeLine; decide), fun l hl => k.no F0 g e0 (n := 4) rfl ((step_right s n).trans (onDay4 h2 h3)) hl⟩
  · rw [h1]
    refine iteF ?_
    obtain ⟨i1, i2⟩ := inside_iff.mp h2
    have hri := rights_at h3
    generalize hrr : Vbfuam.judged s (n.toNat - 1 + 1) x (bookTo s (n.toNat - 1)) = r at hri
    have hst : Vbfuam.step s (.right n) = (s, [(if r.wrong = true then 1 else 0), r.value, r.units, (r.fee : Int)]) := by
      rw [step_right, onDay0 h2 h3, hri]
      rfl
    refine ⟨_, rfl, p, dp, _, rfl, hp, rfl, p, t, q, d, y, c, b, ys, s, G, rfl, sg, F, g, fun h hs G1 H1 e1 hh hH pr => ?_⟩
    obtain ⟨ar, har, rc, ff, rp, ⟨dxr, hr1⟩, ⟨dc, hr2⟩, ⟨ol, ⟨drp, hr3⟩, hol⟩⟩ := pr.left hri
    refine ⟨_, rfl, _, _, rfl, rfl, h, _, _, _, rfl, rfl, SqL.of hH, at_of (j := n.toNat - 1) (by omega) (get_refs har), ?_⟩
    refine ⟨_, rfl, ar, A.cRight, dxr, _, _, rfl, e1.gh _ _ hr1, T.cl_RightDay, T.na_RightDay_wrong, rfl, _, rfl, ?_⟩
    have fin : ∀ z : Int, z = (if r.wrong = true then 1 else 0) → tCons (tFld K (tFld K (tVar 4) "reckoning") "value") (tCons (tFld K (tFld K (tVar 4) "reckoning") "units") (tCons (tFld K (tFld K (tVar 4) "result") "fee") tNil))
        [some (.ref p), some (.ref tl), some (.int n), some (.int (refusal s n)), some (.ref ar)] H1 (fun xs H2 => (fun (xs : List V) (H1 : Hp) => xs.length ≤ sizeLine ∧ ∀ l, H1 l = Option.none → Q (.ref l) (upd H1 l (.lst xs))) (.int z :: xs) H2) := fun z hz => by
      refine ⟨_, rfl, ar, A.cRight, dxr, _, _, rfl, e1.gh _ _ hr1, T.cl_RightDay, T.na_RightDay_reckoning, rfl, rc, A.cRec, dc, _, _, rfl, e1.gh _ _ hr2, T.cl_Reckoning, T.na_Reckoning_value, rfl, _, rfl, ar, A.cRight, dxr, _, _, rfl, e1.gh _ _ hr1, T.cl_RightDay, T.na_RightDay_reckoning, rfl, rc, A.cRec, dc, _, _, rfl, e1.gh _ _ hr2, T.cl_Reckoning, T.na_Reckoning_units, rfl,
        _, rfl, ar, A.cRight, dxr, _, _, rfl, e1.gh _ _ hr1, T.cl_RightDay, T.na_RightDay_result, rfl, rp, A.cRes, drp, _, _, rfl, e1.gh _ _ hr3, T.cl_DayResult, T.na_DayResult_fee, rfl, (by show 4 ≤ sizeLine; decide), fun l hl => ?_⟩
      rw [hz]
      exact k.same F0 g e1 (ans := [(if r.wrong = true then 1 else 0), r.value, r.units, (r.fee : Int)]) hst hl
    rw [h1] at fin
    refine ite2 (fun hw => ?_) (fun hw => ?_)
    · exact fin 1 (by rw [if_pos hw])
    · exact fin 0 (by rw [if_neg hw])
def wPut (G H : Hp) (tl : Addr) (cl : Vbfuam.Call) : Prop := cl = .putright
theorem ok_answer_putright (T : Txt K mg A) : CalF P w K mg base 9 "answer_putright" ["fund", "told"] (spAns A wPut) := by
  refine calF T.f_answer_putright sc_answer_putright (fun _ _ _ _ _ _ us hl => match us, hl with | [_, _], _ => rfl) spAns_len (fun f cdv A1 outer s0 H vs Q E hr h => ?_)
  obtain ⟨p, tl, G, M, s, cl, rfl, sg, F0, g, rfl, k⟩ := h
  obtain ⟨t, q, d, y, c, b, ys, F, hM⟩ := id F0
  obtain ⟨dp, hp⟩ := F.ins
  refine ⟨_, (pss_cons (ps_set (i := 2) sc_answer_putright.nd rfl (Or.inl rfl) (pe_md0 (ok_Fund_put_right T) (hr.mono (by decide)) (pv 0)))
      (pss_one (ps_ret (pe_lst (pa_cons (pe_fld (pv 2) rfl) (pa_cons (pe_fld (pv 2) rfl) (pa_cons (pe_fld (pv 2) rfl) pa_nil))))))), ?_⟩
  refine ⟨_, rfl, p, dp, _, rfl, hp, rfl, p, t, q, d, y, c, b, ys, s, G, rfl, sg, F, g, fun a b' G1 H1 e1 ⟨da, ha⟩ F1 => ?_⟩
  refine ⟨_, rfl, a, A.cPut, da, _, _, rfl, ha, T.cl_PutRight, T.na_PutRight_wrong_days, rfl, _, rfl, a, A.cPut, da, _, _, rfl, ha, T.cl_PutRight, T.na_PutRight_owed, rfl, _, rfl, a, A.cPut, da, _, _, rfl, ha, T.cl_PutRight, T.na_PutRight_fees, rfl, (by show 3 ≤ sizeLine; decide), fun l hl => ?_⟩
  have e2 := Ex.new (o := .lst [nV ((Vbfuam.rights s).filter fun r => r.wrong).length, .int (Vbfuam.isum (Vbfuam.holders.map (Vbfuam.owedBy s))), .int (Vbfuam.isum ((s.days.zip (Vbfuam.rights s)).map fun p => (p.1.feeNow : Int) - (p.2.fee : Int)))]) e1.gh hl
  refine k l G1 _ M ((e1.trans e2).weak ?_) (fun a h => .inl h) (e1.freeH hl) (e1.gh.free hl) upd_same ⟨t, q, d, y, c, b', ys, F1.keep0 e2, hM⟩ (good_putright g)
  intro x hx
  rw [List.append_nil] at hx
  rcases (List.mem_cons.mp hx) with h | h
  · rw [h]; exact hM p (by simp [own])
  · exact hM x (by simp [own, h])
def wClose (G H : Hp) (tl : Addr) (cl : Vbfuam.Call) : Prop := cl = .close
theorem ok_answer_close (T : Txt K mg A) : CalF P w K mg base 8 "answer_close" ["fund", "told"] (spAns A wClose) := by
  refine calF T.f_answer_close sc_answer_close (fun _ _ _ _ _ _ us hl => match us, hl with | [_, _], _ => rfl) spAns_len (fun f cdv A1 outer s0 H vs Q E hr h => ?_)
  obtain ⟨p, tl, G, M, s, cl, rfl, sg, F0, g, rfl, k⟩ := h
  obtain ⟨t, q, d, y, c, b, ys, F, hM⟩ := id F0
  obtain ⟨dp, hp⟩ := F.ins
  refine ⟨_, (pss_cons (ps_if (pt_cmpR op_ge (pe_callB call_len_seq (by rfl) T.b_len PySem.boot_len (pa_cons (pe_fld (pv 0) rfl) pa_nil)) (pe_gi T.g_MOST_DAYS rfl) (nomark _)) (pss_one (ps_ret (pe_lst (pa_cons (pe_gi T.g_AS_MANY_AS_MAY_BE rfl) pa_nil)))) pss_nil)
      (pss_cons (ps_set (i := 2) sc_answer_close.nd rfl (Or.inl rfl) (pe_md0 (ok_Fund_reckon_today T) (hr.mono (by decide)) (pv 0)))
      (pss_cons (ps_if (pt_not (pt_val (pe_md0 (ok_Reckoning_has_price T) (hr.mono (by decide)) (pv 2)))) (pss_one (ps_ret (pe_lst (pa_cons (pe_gi T.g_NO_PRICE rfl) pa_nil)))) pss_nil)
      (pss_cons (ps_expr (pe_md (ok_Fund_close_today T) (hr.mono (by decide)) (pv 0) (pa_cons (pv 2) pa_nil)))
      (pss_one (ps_ret (pe_lst (pa_cons (pe_callB call_len_seq (by rfl) T.b_len PySem.boot_len (pa_cons (pe_fld (pv 0) rfl) pa_nil)) (pa_cons (pe_fld (pv 2) rfl) (pa_cons (pe_fld (pv 2) rfl) (pa_cons (pe_fld (pv 2) rfl) pa_nil))))))))))), ?_⟩
  have e0 := Ex.refl sg
  have l0 := F.days.len
  have hS : Vbfuam.step s .close = (if 60 ≤ s.days.length then Vbfuam.no s 8 else if Vbfuam.gross s s.quotes (Vbfuam.standing s) - (Vbfuam.feeOf s (Vbfuam.gross s s.quotes (Vbfuam.standing s)) : Int) < 1 ∨ Vbfuam.isum (Vbfuam.standing s).units < 1 then Vbfuam.no s 9 else
      Vbfuam.yes (closed s (Vbfuam.gross s s.quotes (Vbfuam.standing s) - (Vbfuam.feeOf s (Vbfuam.gross s s.quotes (Vbfuam.standing s)) : Int)) (Vbfuam.isum (Vbfuam.standing s).units) (Vbfuam.feeOf s (Vbfuam.gross s s.quotes (Vbfuam.standing s))))
        [((s.days.length + 1 : Nat) : Int), Vbfuam.gross s s.quotes (Vbfuam.standing s) - (Vbfuam.feeOf s (Vbfuam.gross s s.quotes (Vbfuam.standing s)) : Int), Vbfuam.isum (Vbfuam.standing s).units, ((Vbfuam.feeOf s (Vbfuam.gross s s.quotes (Vbfuam.standing s)) : Nat) : Int)]) := rfl
  have vle := value_le g g.quotes g.days g.standing
  refine ⟨_, rfl, p, A.cFund, dp, _, _, rfl, hp, T.cl_Fund, T.na_Fund_days, rfl, y, _, rfl, .inl (SqL.of F.list), _, _, rfl, rfl, _, rfl, ?_⟩
  rw [List.length_map, l0]
  by_cases h60 : 60 ≤ s.days.length
  · rw [decide_eq_true (show (60 : Int) ≤ (s.days.length : Int) by omega)]
    rw [if_pos h60] at hS
    exact iteT ⟨(by show 1 ≤ sizeLine; decide), fun l hl => k.no F0 g e0 (n := 8) rfl hS hl⟩
  · rw [decide_eq_false (show ¬ (60 : Int) ≤ (s.days.length : Int) by omega)]
    rw [if_neg h60] at hS
    refine iteF ?_
    refine ⟨_, rfl, p, dp, _, rfl, hp, rfl, p, t, q, d, y, c, b, ys, s, G, rfl, sg, F, g, fun r G1 H1 e1 hrc => ?_⟩
    generalize Vbfuam.gross s s.quotes (Vbfuam.standing s) - (Vbfuam.feeOf s (Vbfuam.gross s s.quotes (Vbfuam.standing s)) : Int) = v at *
    generalize hu : Vbfuam.isum (Vbfuam.standing s).units = u at *
    generalize hf : Vbfuam.feeOf s (Vbfuam.gross s s.quotes (Vbfuam.standing s)) = fe at *
    obtain ⟨dr, hr1⟩ := hrc.mono e1.gh
    refine ⟨_, rfl, r, dr, _, rfl, hr1, rfl, r, v, u, fe, rfl, ⟨dr, hr1⟩, _, rfl, ?_⟩
    by_cases hlow : v < 1 ∨ u < 1
    · have e1' : (decide (1 ≤ v) && decide (1 ≤ u)) = false := by
        rcases hlow with h | h
        · rw [decide_eq_false (show ¬ 1 ≤ v by omega), Bool.false_and]
        · rw [decide_eq_false (show ¬ 1 ≤ u by omega), Bool.and_false]
      rw [e1']
      rw [if_pos hlow] at hS
      exact iteT ⟨(by show 1 ≤ sizeLine; decide), fun l hl => k.no F0 g e1 (n := 9) rfl hS hl⟩
    · have h1 : 1 ≤ v := by omega
      have h2 : 1 ≤ u := by omega
      rw [decide_eq_true h1, decide_eq_true h2]
      rw [if_neg hlow] at hS
      refine iteF ?_
      refine ⟨_, rfl, p, dp, _, rfl, e1.keep0 hp, rfl, _, rfl, p, t, q, d, y, c, b, ys, s, r, v, u, fe, G1, rfl, e1.gh, F.keep0 e1, g, hrc, h1, vle, h2, by omega, fun x d' G2 H2 e2 hx hd' F2 => ?_⟩
      obtain ⟨dp2, hp2⟩ := F2.ins
      obtain ⟨dr2, hr2⟩ := (hrc.mono e2.gg).mono e2.gh
      refine ⟨_, rfl, p, A.cFund, dp2, _, _, rfl, hp2, T.cl_Fund, T.na_Fund_days, rfl, y, _, rfl, .inl (SqL.of F2.list), _, rfl, r, A.cRec, dr2, _, _, rfl, hr2, T.cl_Reckoning, T.na_Reckoning_value, rfl, _, rfl, r, A.cRec, dr2, _, _, rfl, hr2, T.cl_Reckoning, T.na_Reckoning_units, rfl,
        _, rfl, r, A.cRec, dr2, _, _, rfl, hr2, T.cl_Reckoning, T.na_Reckoning_fee, rfl, (by show 4 ≤ sizeLine; decide), fun l hl => ?_⟩
      have e3 := Ex.new (o := .lst [.int (((ys ++ [x]).map V.ref).length : Nat), .int v, .int u, nV fe]) e2.gh hl
      have hpM : p ∈ M := hM p (by simp [own])
      have hdM : d ∈ M := hM d (by simp [own])
      have hyM : y ∈ M := hM y (by simp [own])
      refine k l G2 _ (own p q d' y c (ys ++ [x])) (((e1.trans e2).trans e3).weak (N := M) (by simp [hpM, hdM, hyM])) ?_ (e1.freeH (e2.freeH hl)) (e2.gh.free hl) ?_ ?_ ?_
      · intro a ha
        simp only [own, List.mem_cons, List.mem_append, List.mem_singleton, List.not_mem_nil, or_false] at ha
        rcases ha with h | h | h | h | h | h | h
        · rw [h]; exact .inl hpM
        · rw [h]; exact .inl (hM q (by simp [own]))
        · rw [h]; exact .inr (e1.freeH hd')
        · rw [h]; exact .inl hyM
        · rw [h]; exact .inl (hM c (by simp [own]))
        · exact .inl (hM a (by simp [own, h]))
        · rw [h]; exact .inr (e1.freeH hx)
      · rw [hS]
        show upd _ _ _ _ = _
        rw [upd_same, List.length_map, List.length_append, l0]
        rfl
      · rw [hS]
        exact ⟨t, q, d', y, c, b, ys ++ [x], F2.keep0 e3, fun a h => h⟩
      · rw [hS]
        exact good_close g (by omega) h1 vle h2
end
end My
set_option Elab.async false
set_option linter.all false
set_option maxRecDepth 100000
set_option maxHeartbeats 2000000
namespace My
open PySem PySem.Spec PyProof.Rows L2
open Vbfuam (State Deal Out Day Fix Book Right)
def isFix (n t : Nat) (f : Fix) : Bool := f.day == n && f.thing == t
theorem isFix_iff {n t : Nat} {f : Fix} : isFix n t f = true ↔ f.day = n ∧ f.thing = t := by
  unfold isFix
  rw [Bool.and_eq_true, beq_iff_eq, beq_iff_eq]
theorem find_filter_ne {n t n' t' : Nat} (h : ¬ (n' = n ∧ t' = t)) : ∀ l : List Fix, (l.filter fun f => !isFix n t f).find? (isFix n' t') = l.find? (isFix n' t')
  | [] => rfl
  | f :: l => by
    have ih := find_filter_ne h l
    rw [List.filter_cons]
    cases e : isFix n t f with
    | true =>
      have hne : isFix n' t' f = false := by
        cases e2 : isFix n' t' f with
        | false => rfl
        | true =>
          obtain ⟨a1, a2⟩ := isFix_iff.mp e
          obtain ⟨b1, b2⟩ := isFix_iff.mp e2
          exact absurd ⟨b1.symm.trans a1, b2.symm.trans a2⟩ h
      rw [if_neg (by simp), List.find?_cons, hne]
      exact ih
    | false =>
      rw [if_pos (by simp), List.find?_cons, List.find?_cons]
      cases isFix n' t' f with
      | true => rfl
      | false => exact ih
theorem find_filter_eq {n t : Nat} : ∀ l : List Fix, (l.filter fun f => !isFix n t f).find? (isFix n t) = none := fun l => by
  rw [List.find?_eq_none]
  intro f hf
  have h := (List.mem_filter.mp hf).2
  intro z
  rw [z] at h
  cases h
theorem filter_len_none {n t : Nat} {l : List Fix} (h : l.find? (isFix n t) = none) : (l.filter fun f => !isFix n t f) = l := by
  rw [List.filter_eq_self]
  intro f hf
  rw [List.find?_eq_none] at h
  have := h f hf
  cases e : isFix n t f with
  | true => exact absurd e this
  | false => rfl
theorem filter_len_some {n t : Nat} : ∀ {l : List Fix}, (l.map fun f => (f.day, f.thing)).Nodup → (l.find? (isFix n t)).isSome = true → (l.filter fun f => !isFix n t f).length + 1 = l.length
  | [], _, h => by cases h
  | f :: l, nd, h => by
    rw [List.map_cons, List.nodup_cons] at nd
    rw [List.find?_cons] at h
    rw [List.filter_cons]
    cases e : isFix n t f with
    | true =>
      obtain ⟨a1, a2⟩ := isFix_iff.mp e
      have hn : l.find? (isFix n t) = none := by
        rw [List.find?_eq_none]
        intro x hx hx2
        obtain ⟨b1, b2⟩ := isFix_iff.mp hx2
        exact nd.1 (List.mem_map.mpr ⟨x, hx, by rw [b1, b2, a1, a2]⟩)
      rw [if_neg (by simp), filter_len_none hn]
      rfl
    | false =>
      rw [e] at h
      rw [if_pos (by simp)]
      have ih := filter_len_some nd.2 h
      show (l.filter fun f => !isFix n t f).length + 1 + 1 = l.length + 1
      omega
theorem putK_len_some {kvs : List (List Key × V)} {k : List Key} {v : V} (h : (valV kvs k).isSome = true) : (putK kvs k v).length = kvs.length := by
  unfold putK
  rw [valV_any, if_pos h, List.length_map]
theorem FixRel.put {kvs : List (List Key × V)} {fs : List Fix} (fr : FixRel kvs fs) (nd : (fs.map fun f => (f.day, f.thing)).Nodup) (n t q : Nat) :
    FixRel (putK kvs [.inl (n : Int), .inl (t : Int)] (nV q)) ((fs.filter fun f => !(f.day == n && f.thing == t)) ++ [{ day := n, thing := t, quote := q }]) where
  len := by
    rw [List.length_append]
    show _ = (fs.filter fun f => !isFix n t f).length + 1
    have hg := fr.get n t
    cases e : fs.find? (isFix n t) with
    | none =>
      have e' : (fs.find? fun f => f.day == n && f.thing == t) = none := e
      rw [e'] at hg
      rw [putK_new _ hg, List.length_append, filter_len_none e, fr.len]
      rfl
    | some f =>
      have e' : (fs.find? fun f => f.day == n && f.thing == t) = some f := e
      rw [e'] at hg
      rw [putK_len_some (by rw [hg]; rfl), filter_len_some nd (by rw [e]; rfl), fr.len]
  get := fun n' t' => by
    rw [valV_put, List.find?_append]
    by_cases h : n' = n ∧ t' = t
    · obtain ⟨h1, h2⟩ := h
      subst h1 h2
      rw [if_pos rfl]
      have e : (fs.filter fun f => !(f.day == n' && f.thing == t')).find? (fun f => f.day == n' && f.thing == t') = none := find_filter_eq fs
      rw [e]
      have e2 : ([({ day := n', thing := t', quote := q } : Fix)].find? fun f => f.day == n' && f.thing == t') = some { day := n', thing := t', quote := q } := by simp
      rw [Option.none_or, e2]
      rfl
    · rw [if_neg (by
        intro z
        have z1 : (Sum.inl (n' : Int) : Key) = Sum.inl (n : Int) := (List.cons.inj z).1
        have z2 : (Sum.inl (t' : Int) : Key) = Sum.inl (t : Int) := (List.cons.inj (List.cons.inj z).2).1
        have z3 := Sum.inl.inj z1
        have z4 := Sum.inl.inj z2
        exact h ⟨by omega, by omega⟩), fr.get n' t']
      have e : (fs.filter fun f => !(f.day == n && f.thing == t)).find? (fun f => f.day == n' && f.thing == t') = fs.find? fun f => f.day == n' && f.thing == t' := find_filter_ne h fs
      rw [e]
      have e2 : ([({ day := n, thing := t, quote := q } : Fix)].find? fun f => f.day == n' && f.thing == t') = none := by
        rw [List.find?_eq_none]
        intro f hf
        rw [List.mem_singleton.mp hf]
        intro z
        rw [Bool.and_eq_true, beq_iff_eq, beq_iff_eq] at z
        exact h ⟨z.1.symm, z.2.symm⟩
      rw [e2, Option.or_none]
section
variable {P : Program} {w : World} {K : PySem.W.Frag} {mg : Str → Option Value} {base : Heap} {A : Ad}
def wFix (G H : Hp) (tl : Addr) (cl : Vbfuam.Call) : Prop := ∃ n i p, cl = .fix n i p ∧ Ints H tl [n, i, p]
theorem step_fix (s : State) (n i p : Int) : Vbfuam.step s (.fix n i p) = (if Vbfuam.isThing i = false ∨ Vbfuam.isQuote p = false then Vbfuam.no s 1 else Vbfuam.onDay s n fun n _ =>
      if 60 ≤ (s.fixes.filter fun f => !(f.day == n && f.thing == i.toNat)).length then Vbfuam.no s 8 else Vbfuam.yes { s with fixes := (s.fixes.filter fun f => !(f.day == n && f.thing == i.toNat)) ++ [{ day := n, thing := i.toNat, quote := p.toNat }] } [((s.fixes.filter fun f => !(f.day == n && f.thing == i.toNat)).length + 1 : Nat)]) := rfl
theorem ok_answer_fix (T : Txt K mg A) : CalF P w K mg base 2 "answer_fix" ["fund", "told"] (spAns A wFix) := by
  refine calF T.f_answer_fix sc_answer_fix (fun _ _ _ _ _ _ us hl => match us, hl with | [_, _], _ => rfl) spAns_len (fun f cdv A1 outer s0 H vs Q E hr h => ?_)
  obtain ⟨p, tl, G, M, s, cl, rfl, sg, F0, g, ⟨n, i, pr, rfl, ht⟩, k⟩ := h
  obtain ⟨t, q, d, y, c, b, ys, F, hM⟩ := id F0
  obtain ⟨dp, hp⟩ := F.ins
  obtain ⟨kvs, hc, fr⟩ := F.fixes
  refine ⟨_, (pss_cons (ps_set (i := 2) sc_answer_fix.nd rfl (Or.inl rfl) (pe_ix ix_list (pv 1) pe_int (fun _ _ => rfl)))
      (pss_cons (ps_set (i := 3) sc_answer_fix.nd rfl (Or.inl rfl) (pe_ix ix_list (pv 1) pe_int (fun _ _ => rfl)))
      (pss_cons (ps_set (i := 4) sc_answer_fix.nd rfl (Or.inl rfl) (pe_ix ix_list (pv 1) pe_int (fun _ _ => rfl)))
      (pss_cons (ps_if (pt_not (PW.pt (pw_and (pt_val (pe_fn (ok_is_thing T) (hr.mono (by decide)) rfl (pa_cons (pv 3) pa_nil))) (pw_and1 (pt_val (pe_fn (ok_is_quote T) (hr.mono (by decide)) rfl (pa_cons (pv 4) pa_nil))))))) (pss_one (ps_ret (pe_lst (pa_cons (pe_gi T.g_OUT_OF_RANGE rfl) pa_nil)))) pss_nil)
      (pss_cons (ps_set (i := 5) sc_answer_fix.nd rfl (Or.inl rfl) (pe_fn (ok_day_refusal T) (hr.mono (by decide)) rfl (pa_cons (pv 0) (pa_cons (pv 2) pa_nil))))
      (pss_cons (ps_if (pt_cmpR op_lt (pv 5) pe_int (nomark _)) (pss_one (ps_ret (pe_lst (pa_cons (pv 5) pa_nil)))) pss_nil)
      (pss_cons (ps_set (i := 6) sc_answer_fix.nd rfl (Or.inl rfl) (pe_tup (pa_cons (pv 2) (pa_cons (pv 3) pa_nil))))
      (pss_cons (ps_if (PW.pt (pw_and (pt_cmp (pc_dnotin (hu_of hr) (pv 6) (pe_fld (pv 0) rfl))) (pw_and1 (pt_cmpR op_ge (pe_callB call_lenT (by rfl) T.b_len PySem.boot_len (pa_cons (pe_fld (pv 0) rfl) pa_nil)) (pe_gi T.g_MOST_CORRECTIONS rfl) (nomark _))))) (pss_one (ps_ret (pe_lst (pa_cons (pe_gi T.g_AS_MANY_AS_MAY_BE rfl) pa_nil)))) pss_nil)
      (pss_cons (ps_dput (hu_of hr) (pe_fld (pv 0) rfl) (pv 6) (pv 4) rfl)
      (pss_one (ps_ret (pe_lst (pa_cons (pe_callB call_lenT (by rfl) T.b_len PySem.boot_len (pa_cons (pe_fld (pv 0) rfl) pa_nil)) pa_nil))))))))))))), ?_⟩
  have e0 := Ex.refl sg
  have hS := step_fix s n i pr
  refine ⟨_, rfl, tl, _, _, _, rfl, rfl, SqL.of ht, at0, ?_⟩
  refine ⟨_, rfl, tl, _, _, _, rfl, rfl, SqL.of ht, at1, ?_⟩
  refine ⟨_, rfl, tl, _, _, _, rfl, rfl, SqL.of ht, at2, ?_⟩
  refine ⟨_, rfl, i, rfl, _, rfl, ?_⟩
  cases hi : Vbfuam.inside i 1 6 with
  | false =>
    rw [if_pos (.inl hi)] at hS
    exact iteF (iteT ⟨(by show 1 ≤ sizeLine; decide), fun l hl => k.no F0 g e0 (n := 1) rfl hS hl⟩)
  | true =>
    refine iteT ⟨_, rfl, pr, rfl, _, rfl, ?_⟩
    cases hn : Vbfuam.inside pr 0 1000000000000 with
    | false =>
      rw [if_pos (.inr hn)] at hS
      exact iteT ⟨(by show 1 ≤ sizeLine; decide), fun l hl => k.no F0 g e0 (n := 1) rfl hS hl⟩
    | true =>
      rw [if_neg (by
        intro z
        rcases z with z | z
        · exact absurd (hi.symm.trans z) (by decide)
        · exact absurd (hn.symm.trans z) (by decide))] at hS
      refine iteF ?_
      refine ⟨_, rfl, _, rfl, p, M, s, n, G, rfl, F0, ?_⟩
      refine ⟨_, rfl, _, _, rfl, rfl, _, rfl, ?_⟩
      rcases refusal_cases s n with ⟨h1, h2⟩ | ⟨h1, h2, h3⟩ | ⟨h1, h2, x, h3⟩
      · rw [h1]
        exact iteT ⟨_, rfl, (by show 1 ≤ sizeLine; decide), fun l hl => k.no F0 g e0 (n := 1) rfl (hS.trans (onDay1 h2)) hl⟩
      · rw [h1]
        exact iteT ⟨_, rfl, (by show 1 ≤ sizeLine; decide), fun l hl => k.no F0 g e0 (n := 4) rfl (hS.trans (onDay4 h2 h3)) hl⟩
      · rw [onDay0 h2 h3] at hS
        rw [h1]
        refine iteF ?_
        obtain ⟨i1, i2⟩ := inside_iff.mp hi
        obtain ⟨p1, p2⟩ := inside_iff.mp hn
        obtain ⟨d1, d2⟩ := inside_iff.mp h2
        refine ⟨_, rfl, _, rfl, (by show 2 ≤ sizeLine; decide), fun kt hkt => ?_⟩
        have e1 := Ex.new (o := .tup [.int n, .int i]) sg hkt
        have hp1 := e1.keep0 hp
        have hc1 := e1.keep0 hc
        have htup : (upd H kt (.tup [.int n, .int i])) kt = some (.tup (([.inl ((n.toNat : Nat) : Int), .inl ((i.toNat : Nat) : Int)] : List Key).map kV)) := by
          rw [upd_same, show ((n.toNat : Nat) : Int) = n by omega, show ((i.toNat : Nat) : Int) = i by omega]
          rfl
        have few := g.fixes.few
        have hget := fr.get n.toNat i.toNat
        have go : (s.fixes.filter fun f => !(f.day == n.toNat && f.thing == i.toNat)).length < 60 →
            tSeq (sDPut (tFld K (tVar 0) "corrections") (tVar 6) (tVar 4)) (tRet (tLst (tCons (tCB (fun xs H Q => ∃ a kvs, xs = [V.ref a] ∧ H a = some (.dT kvs) ∧ Q (.int kvs.length) H) (tCons (tFld K (tVar 0) "corrections") tNil)) tNil)))
            { nx := fun _ H' => Q .non H', rt := Q } [some (.ref p), some (.ref tl), some (.int n), some (.int i), some (.int pr), some (.int 0), some (.ref kt)] (upd H kt (.tup [.int n, .int i])) := fun hlt => by
          refine ⟨_, rfl, _, rfl, p, A.cFund, dp, _, _, rfl, hp1, T.cl_Fund, T.na_Fund_corrections, rfl, _, rfl, c, _, rfl, DPut.t hc1 htup ?_, ?_⟩
          · rw [fr.len]
            exact Nat.lt_of_le_of_lt few (by decide)
          have gc := F.gc
          have e2 := Ex.put (o := .dT (putK kvs [.inl ((n.toNat : Nat) : Int), .inl ((i.toNat : Nat) : Int)] (.int pr))) e1.gh gc (some_ne hc1)
          have ncp : p ≠ c := ne_of hp hc (by intro z; cases z)
          have hp2 := e2.keep hp1 (show p ∉ [c] from by simp; exact ncp)
          refine ⟨_, rfl, p, A.cFund, dp, _, _, rfl, hp2, T.cl_Fund, T.na_Fund_corrections, rfl, c, _, rfl, upd_same, (by show 1 ≤ sizeLine; decide), fun l hl => ?_⟩
          have fr2 := fr.put g.fixes.nd n.toNat i.toNat pr.toNat
          rw [nV_toNat p1] at fr2
          have e3 := Ex.new (o := .lst [.int ((putK kvs [.inl ((n.toNat : Nat) : Int), .inl ((i.toNat : Nat) : Int)] (.int pr)).length : Nat)]) e2.gh hl
          have X : Ex [c] G H G _ := (e1.trans e2).trans e3
          rw [if_neg (by omega)] at hS
          have cM : c ∈ M := hM c (by simp [own])
          obtain ⟨as, hd, pd⟩ := F.deals
          have ncq : q ≠ c := ne_of F.quotes hc (by intro z; cases z)
          have ncd : d ≠ c := ne_of hd hc (by intro z; cases z)
          have ncy : y ≠ c := ne_of F.list hc (by intro z; cases z)
          refine k l G _ M (X.weak (by simp [cM])) (fun a h => .inl h) (e1.freeH (e2.freeH hl)) (e2.gh.free hl) ?_ ?_ ?_
          · rw [hS]
            show upd _ _ _ _ = _
            rw [upd_same, fr2.len, List.length_append]
            rfl
          · rw [hS]
            refine ⟨t, q, d, y, c, b, ys, ⟨⟨dp, X.keep hp (show p ∉ [c] from by simp; exact ncp)⟩, (F.terms : TermsAt A G t s), X.keep F.quotes (show q ∉ [c] from by simp; exact ncq), ⟨as, X.keep hd (show d ∉ [c] from by simp; exact ncd), pd⟩, X.keep F.list (show y ∉ [c] from by simp; exact ncy), ?_, ⟨_, e3.keep0 upd_same, fr2⟩, F.net, F.gp, F.gq, F.gd, F.gy, F.gc, F.gs, F.nd, F.qd, F.qy, F.dy, F.pys⟩, hM⟩
            refine F.days.impMem fun a dd ha z => z.mono (Same.refl G) fun o h' => X.keep h' (show a ∉ [c] from ?_)
            simp
            intro w
            obtain ⟨_, _, _, _, _, ⟨_, hda⟩, _⟩ := z
            rw [w, hc] at hda
            cases hda
          · rw [hS]
            exact good_fix g ⟨by omega, by omega⟩ ⟨by omega, by omega⟩ (by omega) hlt
        rw [h1] at *
        refine ⟨_, rfl, _, rfl, p, A.cFund, dp, _, _, rfl, hp1, T.cl_Fund, T.na_Fund_corrections, rfl, c, _, rfl, DGet.t hc1 htup, _, rfl, ?_⟩
        rw [hget]
        cases hf : s.fixes.find? (isFix n.toNat i.toNat) with
        | none =>
          have hf' : (s.fixes.find? fun f => f.day == n.toNat && f.thing == i.toNat) = none := hf
          rw [hf']
          have hfl : (s.fixes.filter fun f => !(f.day == n.toNat && f.thing == i.toNat)).length = s.fixes.length := congrArg List.length (filter_len_none hf)
          refine iteT ?_
          refine ⟨_, rfl, p, A.cFund, dp, _, _, rfl, hp1, T.cl_Fund, T.na_Fund_corrections, rfl, c, _, rfl, hc1, _, _, rfl, rfl, _, rfl, ?_⟩
          rw [fr.len]
          by_cases h60 : 60 ≤ s.fixes.length
          · rw [decide_eq_true (show (60 : Int) ≤ (s.fixes.length : Int) by omega)]
            rw [if_pos (by omega)] at hS
            exact iteT ⟨(by show 1 ≤ sizeLine; decide), fun l hl => k.no F0 g e1 (n := 8) rfl hS hl⟩
          · rw [decide_eq_false (show ¬ (60 : Int) ≤ (s.fixes.length : Int) by omega)]
            exact iteF (go (by omega))
        | some fx =>
          have hf' : (s.fixes.find? fun f => f.day == n.toNat && f.thing == i.toNat) = some fx := hf
          rw [hf']
          have hfl := filter_len_some g.fixes.nd (n := n.toNat) (t := i.toNat) (by rw [hf]; rfl)
          have hfl' : (s.fixes.filter fun f => !(f.day == n.toNat && f.thing == i.toNat)).length + 1 = s.fixes.length := hfl
          exact iteF (iteF (go (by omega)))
def wOrder (G H : Hp) (tl : Addr) (cl : Vbfuam.Call) : Prop := ∃ h kd a, cl = .order h kd a ∧ Ints H tl [h, kd, a]
theorem step_order (s : State) (h kd a : Int) : Vbfuam.step s (.order h kd a) = (if Vbfuam.inside h 1 10 = false ∨ Vbfuam.inside kd 0 1 = false ∨ Vbfuam.inside a 1 1000000000000 = false then Vbfuam.no s 1
      else if 10 ≤ s.deals.length then Vbfuam.no s 8
      else if kd = 1 ∧ (Vbfuam.standing s).units.getD (h.toNat - 1) 0 < (Vbfuam.asked s h.toNat : Int) + a then Vbfuam.no s 7
      else Vbfuam.yes { s with deals := s.deals ++ [{ holder := h.toNat, kind := kd.toNat, amount := a.toNat }] } [((s.deals.length + 1 : Nat) : Int)]) := rfl
theorem ok_answer_order (T : Txt K mg A) : CalF P w K mg base 7 "answer_order" ["fund", "told"] (spAns A wOrder) := by
  refine calF T.f_answer_order sc_answer_order (fun _ _ _ _ _ _ us hl => match us, hl with | [_, _], _ => rfl) spAns_len (fun f cdv A1 outer s0 H vs Q E hr h => ?_)
  obtain ⟨p, tl, G, M, s, cl, rfl, sg, F0, g, ⟨h, kd, a, rfl, ht⟩, k⟩ := h
  obtain ⟨t, q, d, y, c, b, ys, F, hM⟩ := id F0
  obtain ⟨dp, hp⟩ := F.ins
  obtain ⟨as, hd, pd⟩ := F.deals
  refine ⟨_, (pss_cons (ps_set (i := 2) sc_answer_order.nd rfl (Or.inl rfl) (pe_rec (ok_Deal T) (hr.mono (by decide)) rfl (pa_cons (pe_ix ix_list (pv 1) pe_int (fun _ _ => rfl)) (pa_cons (pe_ix ix_list (pv 1) pe_int (fun _ _ => rfl)) (pa_cons (pe_ix ix_list (pv 1) pe_int (fun _ _ => rfl)) pa_nil)))))
      (pss_cons (ps_if (pt_not (PW.pt (pw_and (pt_val (pe_fn (ok_is_holder T) (hr.mono (by decide)) rfl (pa_cons (pe_fld (pv 2) rfl) pa_nil))) (pw_and1 (pt_chain op_le op_le (pe_gi T.g_MONEY_IN rfl) (pe_fld (pv 2) rfl) (pe_gi T.g_UNITS_OUT rfl)))))) (pss_one (ps_ret (pe_lst (pa_cons (pe_gi T.g_OUT_OF_RANGE rfl) pa_nil)))) pss_nil)
      (pss_cons (ps_if (pt_not (pt_chain op_le op_le pe_int (pe_fld (pv 2) rfl) (pe_gi T.g_MOST_AMOUNT rfl))) (pss_one (ps_ret (pe_lst (pa_cons (pe_gi T.g_OUT_OF_RANGE rfl) pa_nil)))) pss_nil)
      (pss_cons (ps_if (pt_cmpR op_ge (pe_callB call_len_seq (by rfl) T.b_len PySem.boot_len (pa_cons (pe_fld (pv 0) rfl) pa_nil)) (pe_gi T.g_MOST_DEALS rfl) (nomark _)) (pss_one (ps_ret (pe_lst (pa_cons (pe_gi T.g_AS_MANY_AS_MAY_BE rfl) pa_nil)))) pss_nil)
      (pss_cons (ps_if (PW.pt (pw_and (pt_cmpR op_eq (pe_fld (pv 2) rfl) (pe_gi T.g_UNITS_OUT rfl) (nomark _)) (pw_and1 (pt_cmpR op_gt (pe_fld (pv 2) rfl) (pe_md (ok_Fund_units_left T) (hr.mono (by decide)) (pv 0) (pa_cons (pe_fld (pv 2) rfl) pa_nil)) (nomark _))))) (pss_one (ps_ret (pe_lst (pa_cons (pe_gi T.g_MORE_THAN_THERE_IS rfl) pa_nil)))) pss_nil)
      (pss_cons (ps_expr (pe_bm PySem.F.plainAttrs_list PySem.F.slot_list_append PySem.F.type_list_append mt_append (pe_fld (pv 0) rfl) (pa_cons (pv 2) pa_nil)))
      (pss_one (ps_ret (pe_lst (pa_cons (pe_callB call_len_seq (by rfl) T.b_len PySem.boot_len (pa_cons (pe_fld (pv 0) rfl) pa_nil)) pa_nil)))))))))), ?_⟩
  have hS := step_order s h kd a
  have l0 := pd.len
  refine ⟨_, rfl, tl, _, _, _, rfl, rfl, SqL.of ht, at0, _, rfl, tl, _, _, _, rfl, rfl, SqL.of ht, at1, _, rfl, tl, _, _, _, rfl, rfl, SqL.of ht, at2, rfl, fun x dx hx hdx hn => ?_⟩
  have e1 := Ex.made (o := .ins A.cDeal dx (fDeal (.int h) (.int kd) (.int a))) sg hx hdx hn
  have hx1 : (upd (upd H dx (.own x)) x (.ins A.cDeal dx (fDeal (.int h) (.int kd) (.int a)))) x = _ := upd_same
  have gx1 : (upd (upd G dx (.own x)) x (.ins A.cDeal dx (fDeal (.int h) (.int kd) (.int a)))) x = _ := upd_same
  have F1 := F.keep0 e1
  have hp1 := e1.keep0 hp
  have hd1 := e1.keep0 hd
  refine ⟨_, rfl, x, A.cDeal, dx, _, _, rfl, hx1, T.cl_Deal, T.na_Deal_holder, rfl, h, rfl, _, rfl, ?_⟩
  cases c1 : Vbfuam.inside h 1 10 with
  | false =>
    rw [if_pos (.inl c1)] at hS
    exact iteF (iteT ⟨(by show 1 ≤ sizeLine; decide), fun l hl => k.no F0 g e1 (n := 1) rfl hS hl⟩)
  | true =>
    refine iteT ⟨_, rfl, x, A.cDeal, dx, _, _, rfl, hx1, T.cl_Deal, T.na_Deal_kind, rfl, rd_inT ?_⟩
    cases c2 : Vbfuam.inside kd 0 1 with
    | false =>
      rw [if_pos (.inr (.inl c2))] at hS
      exact iteT ⟨(by show 1 ≤ sizeLine; decide), fun l hl => k.no F0 g e1 (n := 1) rfl hS hl⟩
    | true =>
      refine iteF ⟨_, rfl, x, A.cDeal, dx, _, _, rfl, hx1, T.cl_Deal, T.na_Deal_amount, rfl, rd_inT ?_⟩
      cases c3 : Vbfuam.inside a 1 1000000000000 with
      | false =>
        rw [if_pos (.inr (.inr c3))] at hS
        exact iteT ⟨(by show 1 ≤ sizeLine; decide), fun l hl => k.no F0 g e1 (n := 1) rfl hS hl⟩
      | true =>
        rw [if_neg (by
          intro z
          rcases z with z | z | z
          · exact absurd (c1.symm.trans z) (by decide)
          · exact absurd (c2.symm.trans z) (by decide)
          · exact absurd (c3.symm.trans z) (by decide))] at hS
        obtain ⟨a1, a2⟩ := inside_iff.mp c1
        obtain ⟨b1, b2⟩ := inside_iff.mp c2
        obtain ⟨d1, d2⟩ := inside_iff.mp c3
        refine iteF ⟨_, rfl, p, A.cFund, dp, _, _, rfl, hp1, T.cl_Fund, T.na_Fund_deals, rfl, d, _, rfl, .inl (SqL.of hd1), _, _, rfl, rfl, _, rfl, ?_⟩
        rw [List.length_map, l0]
        by_cases h10 : 10 ≤ s.deals.length
        · rw [decide_eq_true (show (10 : Int) ≤ (s.deals.length : Int) by omega)]
          rw [if_pos h10] at hS
          exact iteT ⟨(by show 1 ≤ sizeLine; decide), fun l hl => k.no F0 g e1 (n := 8) rfl hS hl⟩
        · rw [decide_eq_false (show ¬ (10 : Int) ≤ (s.deals.length : Int) by omega)]
          rw [if_neg h10] at hS
          refine iteF ?_
          have hG1 : DealAt A (upd (upd G dx (.own x)) x (.ins A.cDeal dx (fDeal (.int h) (.int kd) (.int a)))) x { holder := h.toNat, kind := kd.toNat, amount := a.toNat } := by
            refine ⟨dx, ?_⟩
            rw [gx1, nV_toNat (show 0 ≤ h by omega), nV_toNat b1, nV_toNat (show 0 ≤ a by omega)]
          have go : ∀ H2, Ex [] (upd (upd G dx (.own x)) x (.ins A.cDeal dx (fDeal (.int h) (.int kd) (.int a)))) (upd (upd H dx (.own x)) x (.ins A.cDeal dx (fDeal (.int h) (.int kd) (.int a)))) (upd (upd G dx (.own x)) x (.ins A.cDeal dx (fDeal (.int h) (.int kd) (.int a)))) H2 →
              ¬ (kd = 1 ∧ (Vbfuam.standing s).units.getD (h.toNat - 1) 0 < (Vbfuam.asked s h.toNat : Int) + a) →
              tSeq (tDrop (tBM K "list" rAppend (tFld K (tVar 0) "deals") (tCons (tVar 2) tNil))) (tRet (tLst (tCons (tCB (fun xs H Q => ∃ p ys, xs = [V.ref p] ∧ (SqL K H p ys ∨ SqT K H p ys) ∧ Q (.int ys.length) H) (tCons (tFld K (tVar 0) "deals") tNil)) tNil)))
              { nx := fun _ H' => Q .non H', rt := Q } [some (.ref p), some (.ref tl), some (.ref x)] H2 := fun H2 e2 hok => by
            have hp2 := e2.keep0 hp1
            have hd2 := e2.keep0 hd1
            have F2 := F1.keep0 e2
            rw [if_neg hok] at hS
            refine ⟨_, rfl, p, A.cFund, dp, _, _, rfl, hp2, T.cl_Fund, T.na_Fund_deals, rfl, .inl ⟨rfl, _, SqL.of hd2⟩, _, rfl, d, _, _, rfl, rfl, hd2, ?_, ?_⟩
            · rw [List.length_map]
              exact Nat.lt_of_le_of_lt (show _ ≤ 10 by omega) (by decide)
            have e3 := Ex.put (o := .lst (as.map V.ref ++ [.ref x])) e2.gh F2.gd (some_ne hd2)
            have npd : p ≠ d := ne_of hp hd (by intro z; cases z)
            have hp3 := e3.keep hp2 (show p ∉ [d] from by simp; exact npd)
            refine ⟨_, rfl, p, A.cFund, dp, _, _, rfl, hp3, T.cl_Fund, T.na_Fund_deals, rfl, d, _, rfl, .inl (SqL.of upd_same), (by show 1 ≤ sizeLine; decide), fun l hl => ?_⟩
            have e4 := Ex.new (o := .lst [.int ((as.map V.ref ++ [V.ref x]).length : Nat)]) e3.gh hl
            have X : Ex [d] _ _ _ _ := (e3.trans e4)
            have dM : d ∈ M := hM d (by simp [own])
            obtain ⟨kvs, hc, fr⟩ := F2.fixes
            have ncd : c ≠ d := ne_of hc hd2 (by intro z; cases z)
            refine k l _ _ M (((e1.trans e2).trans X).weak (N := M) (by simp [dM])) (fun a h => .inl h) (e1.freeH (e2.freeH (e3.freeH hl))) (e3.gh.free hl) ?_ ?_ ?_
            · rw [hS]
              show upd _ _ _ _ = _
              rw [upd_same, List.length_append, List.length_map, l0]
              rfl
            · rw [hS]
              refine ⟨t, q, d, y, c, b, ys, ⟨⟨dp, X.keep hp2 (show p ∉ [d] from by simp; exact npd)⟩, (F2.terms : TermsAt A _ t s), X.keep F2.quotes (show q ∉ [d] from by simp; exact F.qd), ⟨as ++ [x], ?_, ?_⟩, X.keep F2.list (show y ∉ [d] from by simp; exact F.dy.symm), ?_, ⟨kvs, X.keep hc (show c ∉ [d] from by simp; exact ncd), fr⟩, F2.net, F2.gp, F2.gq, F2.gd, F2.gy, F2.gc, F2.gs, F2.nd, F2.qd, F2.qy, F2.dy, F2.pys⟩, hM⟩
              · refine (e4.keep0 upd_same).trans ?_
                rw [List.map_append]
                rfl
              · exact (pd.imp fun _ _ z => z.mono e1.gg).snoc hG1
              · refine F2.days.impMem fun aa dd ha z => z.mono (Same.refl _) fun o h' => X.keep h' (show aa ∉ [d] from ?_)
                simp
                intro w
                obtain ⟨_, _, _, _, _, ⟨_, hda⟩, _⟩ := z
                rw [w, hd2] at hda
                cases hda
            · rw [hS]
              exact good_order g ⟨by show 1 ≤ h.toNat; omega, by show h.toNat ≤ 10; omega, by show kd.toNat ≤ 1; omega, by show 1 ≤ a.toNat; omega, by show a.toNat ≤ _; omega⟩ (by omega)
          refine ⟨_, rfl, x, A.cDeal, dx, _, _, rfl, hx1, T.cl_Deal, T.na_Deal_kind, rfl, rfl, _, rfl, ?_⟩
          by_cases hk1 : kd = 1
          · rw [decide_eq_true (show V.int kd = V.int 1 by rw [hk1])]
            refine iteT ⟨_, rfl, x, A.cDeal, dx, _, _, rfl, hx1, T.cl_Deal, T.na_Deal_amount, rfl, _, rfl, p, dp, _, rfl, hp1, rfl, _, rfl, x, A.cDeal, dx, _, _, rfl, hx1, T.cl_Deal, T.na_Deal_holder, rfl, p, t, q, d, y, c, b, ys, s, h.toNat, _, (by rw [nV_toNat (show 0 ≤ h by omega)]; rfl), e1.gh, F1, g, by omega, by omega, fun H2 e2 => ⟨_, _, rfl, rfl, _, rfl, ?_⟩⟩
            by_cases hmore : (Vbfuam.standing s).units.getD (h.toNat - 1) 0 < (Vbfuam.asked s h.toNat : Int) + a
            · rw [decide_eq_true (show (Vbfuam.standing s).units.getD (h.toNat - 1) 0 - ((Vbfuam.asked s h.toNat : Nat) : Int) < a by omega)]
              rw [if_pos ⟨hk1, hmore⟩] at hS
              exact iteT ⟨(by show 1 ≤ sizeLine; decide), fun l hl => k.no F0 g (e1.trans0 e2) (n := 7) rfl hS hl⟩
            · rw [decide_eq_false (show ¬ (Vbfuam.standing s).units.getD (h.toNat - 1) 0 - ((Vbfuam.asked s h.toNat : Nat) : Int) < a by omega)]
              exact iteF (go H2 e2 fun z => hmore z.2)
          · rw [decide_eq_false (fun z : V.int kd = V.int 1 => hk1 (V.int.inj z))]
            exact iteF (iteF (go _ (Ex.refl e1.gh) fun z => hk1 z.1))
end
end My
set_option Elab.async false
set_option linter.all false
set_option maxRecDepth 100000
set_option maxHeartbeats 2000000
namespace My
open PySem PySem.Spec PyProof.Rows L2
open Vbfuam (State Deal Out Day Fix Book Right)
theorem nats_of_ints {qs : List Int} (h : ∀ n ∈ qs, 0 ≤ n) : (qs.map Int.toNat).map nV = qs.map V.int := by
  rw [List.map_map]
  exact List.map_congr_left fun n hn => nV_toNat (h n hn)
def begun (c r l : Int) (qs us : List Int) : State := { Vbfuam.start with cash := c, rate := r.toNat, limit := l.toNat, qty := qs.map Int.toNat, seed := us }
theorem step_begin (s : State) (c r l : Int) (qs us : List Int) : Vbfuam.step s (.begin c r l qs us) = (if Vbfuam.inside c 0 1000000000000 = false ∨ Vbfuam.inside r 0 1000000 = false ∨ Vbfuam.inside l 0 1000000 = false then Vbfuam.no s 1
      else if qs.length ≠ 6 ∨ us.length ≠ 10 ∨ (qs.all fun n => Vbfuam.inside n 0 1000000) = false ∨ (us.all fun n => Vbfuam.inside n 0 1000000000000000) = false ∨ Vbfuam.isum us < 1 then Vbfuam.no s 2
      else Vbfuam.yes (begun c r l qs us) [Vbfuam.isum us]) := rfl
theorem row_no {xs : List Int} {n m : Int} (h : (decide ((xs.length : Int) = n) && xs.all fun x => Vbfuam.inside x 0 m) = false) : ¬ ((xs.length : Int) = n) ∨ (xs.all fun x => Vbfuam.inside x 0 m) = false := by
  rw [Bool.and_eq_false_iff] at h
  rcases h with h | h
  · exact .inl (of_decide_eq_false h)
  · exact .inr h
theorem row_yes {xs : List Int} {n m : Int} (h : (decide ((xs.length : Int) = n) && xs.all fun x => Vbfuam.inside x 0 m) = true) : ((xs.length : Int) = n) ∧ (xs.all fun x => Vbfuam.inside x 0 m) = true := by
  rw [Bool.and_eq_true] at h
  exact ⟨of_decide_eq_true h.1, h.2⟩
section
variable {P : Program} {w : World} {K : PySem.W.Frag} {mg : Str → Option Value} {base : Heap} {A : Ad}
def wBegin (G H : Hp) (tl : Addr) (cl : Vbfuam.Call) : Prop := ∃ c r l qs us q u, cl = .begin c r l qs us ∧ H tl = some (.lst [.int c, .int r, .int l, .ref q, .ref u]) ∧ Ints G q qs ∧ Ints G u us ∧ qs.length ≤ 400 ∧ us.length ≤ 400
theorem ok_answer_begin (T : Txt K mg A) : CalF P w K mg base 3 "answer_begin" ["fund", "told"] (spAns A wBegin) := by
  refine calF T.f_answer_begin sc_answer_begin (fun _ _ _ _ _ _ us hl => match us, hl with | [_, _], _ => rfl) spAns_len (fun f cdv A1 outer s0 H vs Q E hr h => ?_)
  obtain ⟨p, tl, G, M, s, cl, rfl, sg, F0, g, ⟨c, r, l, qs, us, q, u, rfl, ht, hq, hu, hql, hul⟩, k⟩ := h
  obtain ⟨t0, q0, d0, y0, c0, b0, ys, F, hM⟩ := id F0
  obtain ⟨dp, hp⟩ := F.ins
  refine ⟨_, (pss_cons (ps_set (i := 2) sc_answer_begin.nd rfl (Or.inl rfl) (pe_rec (ok_Terms T) (hr.mono (by decide)) rfl (pa_cons (pe_ix ix_list (pv 1) pe_int (fun _ _ => rfl)) (pa_cons (pe_ix ix_list (pv 1) pe_int (fun _ _ => rfl)) (pa_cons (pe_ix ix_list (pv 1) pe_int (fun _ _ => rfl)) (pa_cons (pe_ix ix_list (pv 1) pe_int (fun _ _ => rfl)) (pa_cons (pe_ix ix_list (pv 1) pe_int (fun _ _ => rfl)) pa_nil)))))))
      (pss_cons (ps_if (pt_not (PW.pt (pw_and (pt_chain op_le op_le pe_int (pe_fld (pv 2) rfl) (pe_gi T.g_MOST_FIRST_CASH rfl)) (pw_and1 (pt_chain op_le op_le pe_int (pe_fld (pv 2) rfl) (pe_gi T.g_MOST_RATE rfl)))))) (pss_one (ps_ret (pe_lst (pa_cons (pe_gi T.g_OUT_OF_RANGE rfl) pa_nil)))) pss_nil)
      (pss_cons (ps_if (pt_not (pt_chain op_le op_le pe_int (pe_fld (pv 2) rfl) (pe_gi T.g_MOST_LIMIT rfl))) (pss_one (ps_ret (pe_lst (pa_cons (pe_gi T.g_OUT_OF_RANGE rfl) pa_nil)))) pss_nil)
      (pss_cons (ps_if (pt_not (pt_val (pe_fn (ok_is_row T) (hr.mono (by decide)) rfl (pa_cons (pe_fld (pv 2) rfl) (pa_cons (pe_gi T.g_THINGS rfl) (pa_cons (pe_gi T.g_MOST_QUANTITY rfl) pa_nil)))))) (pss_one (ps_ret (pe_lst (pa_cons (pe_gi T.g_WRONG_FORM rfl) pa_nil)))) pss_nil)
      (pss_cons (ps_if (PW.pt (pw_or (pt_not (pt_val (pe_fn (ok_is_row T) (hr.mono (by decide)) rfl (pa_cons (pe_fld (pv 2) rfl) (pa_cons (pe_gi T.g_HOLDERS rfl) (pa_cons (pe_gi T.g_MOST_FIRST_UNITS rfl) pa_nil)))))) (pw_or1 (pt_cmpR op_lt (pe_callB (cr_sum rfl) (by rfl) T.b_sum PyProof.Rows.boot_sum (pa_cons (pe_fld (pv 2) rfl) pa_nil)) pe_int (nomark _))))) (pss_one (ps_ret (pe_lst (pa_cons (pe_gi T.g_WRONG_FORM rfl) pa_nil)))) pss_nil)
      (pss_cons (ps_expr (pe_md (ok_Fund_begin_anew T) (hr.mono (by decide)) (pv 0) (pa_cons (pv 2) pa_nil)))
      (pss_one (ps_ret (pe_lst (pa_cons (pe_callB (cr_sum rfl) (by rfl) T.b_sum PyProof.Rows.boot_sum (pa_cons (pe_fld (pv 2) rfl) pa_nil)) pa_nil)))))))))), ?_⟩
  have hS := step_begin s c r l qs us
  refine ⟨_, rfl, tl, _, _, _, rfl, rfl, SqL.of ht, at0, _, rfl, tl, _, _, _, rfl, rfl, SqL.of ht, at1, _, rfl, tl, _, _, _, rfl, rfl, SqL.of ht, at2, _, rfl, tl, _, _, _, rfl, rfl, SqL.of ht, at3, _, rfl, tl, _, _, _, rfl, rfl, SqL.of ht, at4, rfl, fun x dx hx hdx hn => ?_⟩
  have e1 := Ex.made (o := .ins A.cTerms dx (fTerms (.int c) (.int r) (.int l) (.ref q) (.ref u))) sg hx hdx hn
  have hx1 : (upd (upd H dx (.own x)) x (.ins A.cTerms dx (fTerms (.int c) (.int r) (.int l) (.ref q) (.ref u)))) x = _ := upd_same
  have gx1 : (upd (upd G dx (.own x)) x (.ins A.cTerms dx (fTerms (.int c) (.int r) (.int l) (.ref q) (.ref u)))) x = _ := upd_same
  have gq1 := e1.gg _ _ hq
  have gu1 := e1.gg _ _ hu
  have F1 := F.keep0 e1
  have hp1 := e1.keep0 hp
  refine ⟨_, rfl, x, A.cTerms, dx, _, _, rfl, hx1, T.cl_Terms, T.na_Terms_first_cash, rfl, rd_inT ?_⟩
  cases c1 : Vbfuam.inside c 0 1000000000000 with
  | false =>
    rw [if_pos (.inl c1)] at hS
    exact iteF (iteT ⟨(by show 1 ≤ sizeLine; decide), fun l hl => k.no F0 g e1 (n := 1) rfl hS hl⟩)
  | true =>
    refine iteT ⟨_, rfl, x, A.cTerms, dx, _, _, rfl, hx1, T.cl_Terms, T.na_Terms_rate, rfl, rd_inT ?_⟩
    cases c2 : Vbfuam.inside r 0 1000000 with
    | false =>
      rw [if_pos (.inr (.inl c2))] at hS
      exact iteT ⟨(by show 1 ≤ sizeLine; decide), fun l hl => k.no F0 g e1 (n := 1) rfl hS hl⟩
    | true =>
      refine iteF ⟨_, rfl, x, A.cTerms, dx, _, _, rfl, hx1, T.cl_Terms, T.na_Terms_limit, rfl, rd_inT ?_⟩
      cases c3 : Vbfuam.inside l 0 1000000 with
      | false =>
        rw [if_pos (.inr (.inr c3))] at hS
        exact iteT ⟨(by show 1 ≤ sizeLine; decide), fun l hl => k.no F0 g e1 (n := 1) rfl hS hl⟩
      | true =>
        rw [if_neg (by
          intro z
          rcases z with z | z | z
          · exact absurd (c1.symm.trans z) (by decide)
          · exact absurd (c2.symm.trans z) (by decide)
          · exact absurd (c3.symm.trans z) (by decide))] at hS
        obtain ⟨a1, a2⟩ := inside_iff.mp c1
        obtain ⟨b1, b2⟩ := inside_iff.mp c2
        obtain ⟨d1, d2⟩ := inside_iff.mp c3
        refine iteF ⟨_, rfl, x, A.cTerms, dx, _, _, rfl, hx1, T.cl_Terms, T.na_Terms_quantities, rfl, q, 6, 1000000, qs, _, rfl, e1.gh, e1.gh _ _ gq1, hql, fun H2 e2 => ⟨_, rfl, ?_⟩⟩
        have e12 := e1.trans0 e2
        cases c4 : (decide ((qs.length : Int) = 6) && qs.all fun x => Vbfuam.inside x 0 1000000) with
        | false =>
          rw [if_pos (by
            rcases row_no c4 with z | z
            · exact .inl (by omega)
            · exact .inr (.inr (.inl z)))] at hS
          exact iteT ⟨(by show 1 ≤ sizeLine; decide), fun l hl => k.no F0 g e12 (n := 2) rfl hS hl⟩
        | true =>
          obtain ⟨q6, qall⟩ := row_yes c4
          refine iteF ⟨_, rfl, x, A.cTerms, dx, _, _, rfl, e2.keep0 hx1, T.cl_Terms, T.na_Terms_first_units, rfl, u, 10, 1000000000000000, us, _, rfl, e2.gh, e2.gh _ _ gu1, hul, fun H3 e3 => ⟨_, rfl, ?_⟩⟩
          have e13 := e12.trans0 e3
          have hx3 := e3.keep0 (e2.keep0 hx1)
          cases c5 : (decide ((us.length : Int) = 10) && us.all fun x => Vbfuam.inside x 0 1000000000000000) with
          | false =>
            rw [if_pos (by
              rcases row_no c5 with z | z
              · exact .inr (.inl (by omega))
              · exact .inr (.inr (.inr (.inl z))))] at hS
            exact iteT (iteT ⟨(by show 1 ≤ sizeLine; decide), fun l hl => k.no F0 g e13 (n := 2) rfl hS hl⟩)
          | true =>
            obtain ⟨u10, uall⟩ := row_yes c5
            refine iteF ⟨_, rfl, x, A.cTerms, dx, _, _, rfl, hx3, T.cl_Terms, T.na_Terms_first_units, rfl, u, us, rfl, SqL.of (e3.gh _ _ gu1), _, _, rfl, rfl, _, rfl, ?_⟩
            by_cases c6 : us.sum < 1
            · rw [if_pos (.inr (.inr (.inr (.inr c6))))] at hS
              rw [decide_eq_true c6]
              exact iteT ⟨(by show 1 ≤ sizeLine; decide), fun l hl => k.no F0 g e13 (n := 2) rfl hS hl⟩
            · rw [decide_eq_false c6]
              rw [if_neg (by
                intro z
                rcases z with z | z | z | z | z
                · exact z (by omega)
                · exact z (by omega)
                · exact absurd (qall.symm.trans z) (by decide)
                · exact absurd (uall.symm.trans z) (by decide)
                · exact c6 z)] at hS
              have qpos : ∀ n ∈ qs, 0 ≤ n ∧ n ≤ 1000000 := fun n hn => inside_iff.mp (List.all_eq_true.mp qall n hn)
              have hp3 := e3.keep0 (e2.keep0 hp1)
              refine iteF ⟨_, rfl, p, dp, _, rfl, hp3, rfl, _, rfl, p, dp, _, x, begun c r l qs us, _, rfl, e3.gh, F1.gp, hp3, .inr ⟨_, _, _, _, _, _, rfl⟩, ?_, fun q' d' y' c' b' G4 H4 e4 hq' hd' hy' hc' F4 => ?_⟩
              · refine ⟨q, u, ⟨dx, ?_⟩, ?_, gu1⟩
                · show _ = some (HO.ins A.cTerms dx (fTerms (.int c) (nV r.toNat) (nV l.toNat) (.ref q) (.ref u)))
                  rw [nV_toNat b1, nV_toNat d1]
                  exact upd_same
                · show _ = some (HO.lst ((qs.map Int.toNat).map nV))
                  rw [nats_of_ints fun n hn => (qpos n hn).1]
                  exact gq1
              · have hx4 := e4.gh _ _ (e4.gg _ _ gx1)
                have hu4 := e4.gh _ _ (e4.gg _ _ gu1)
                refine ⟨_, rfl, x, A.cTerms, dx, _, _, rfl, hx4, T.cl_Terms, T.na_Terms_first_units, rfl, u, us, rfl, SqL.of hu4, (by show 1 ≤ sizeLine; decide), fun z hz => ?_⟩
                have e5 := Ex.new (o := .lst [.int us.sum]) e4.gh hz
                have pM : p ∈ M := hM p (by simp [own])
                refine k z G4 _ (own p q' d' y' c' []) (((e13.trans e4).trans e5).weak (N := M) (by simp [pM])) ?_ (e13.freeH (e4.freeH hz)) (e4.gh.free hz) ?_ ?_ ?_
                · intro a ha
                  simp only [own, List.mem_cons, List.not_mem_nil, or_false] at ha
                  rcases ha with h | h | h | h | h
                  · rw [h]; exact .inl pM
                  · rw [h]; exact .inr (e13.freeH hq')
                  · rw [h]; exact .inr (e13.freeH hd')
                  · rw [h]; exact .inr (e13.freeH hy')
                  · rw [h]; exact .inr (e13.freeH hc')
                · rw [hS]
                  exact upd_same
                · rw [hS]
                  exact ⟨x, q', d', y', c', b', [], F4.keep0 e5, fun a h => h⟩
                · rw [hS]
                  exact good_begin ⟨a1, a2⟩ ⟨b1, b2⟩ ⟨d1, d2⟩ (by omega) qpos (by omega)
end
end My
set_option Elab.async false
set_option linter.all false
set_option maxRecDepth 100000
set_option maxHeartbeats 2000000
namespace My
open PySem PySem.Spec PyProof.Rows L2
open Vbfuam (State Deal Out Day Fix Book Right)
theorem drop_one {α : Type} {l : List α} {i : Nat} {x : α} (h : l[i]? = some x) : (l.drop i).take 1 = [x] := by
  have hi : i < l.length := (List.getElem?_eq_some_iff.mp h).1
  rw [List.drop_eq_getElem_cons hi]
  rw [List.getElem?_eq_getElem hi] at h
  rw [Option.some.inj h]
  rfl
theorem step_outcome (s : State) (n m : Int) : Vbfuam.step s (.outcome n m) = (if Vbfuam.inside m 1 10 = false then Vbfuam.no s 1 else Vbfuam.onDay s n fun n x => match x.deals[m.toNat - 1]?, (Vbfuam.rights s)[n - 1]? with
      | some e, some r => Vbfuam.yes s ([(e.holder : Int)] ++ Vbfuam.flat ((x.first.drop (m.toNat - 1)).take 1 ++ ((x.outs.drop (m.toNat - 1)).take 1 ++ (r.outs.drop (m.toNat - 1)).take 1)))
      | _, _ => Vbfuam.no s 4) := rfl
theorem step_holder (s : State) (h : Int) : Vbfuam.step s (.holder h) = (if Vbfuam.inside h 1 10 = false then Vbfuam.no s 1 else Vbfuam.yes s [0, (Vbfuam.standing s).units.getD (h.toNat - 1) 0, (Vbfuam.rightBook s).units.getD (h.toNat - 1) 0, s.net.getD (h.toNat - 1) 0, Vbfuam.owedBy s h.toNat]) := rfl
theorem Good.rightBook {s : State} (g : Good s) : BookOk s.days.length (Vbfuam.rightBook s) := by
  rw [rightBook_eq]
  exact g.bookTo _ (Nat.le_refl _)
section
variable {P : Program} {w : World} {K : PySem.W.Frag} {mg : Str → Option Value} {base : Heap} {A : Ad}
def wCounts (G H : Hp) (tl : Addr) (cl : Vbfuam.Call) : Prop := cl = .counts
theorem ok_answer_counts (T : Txt K mg A) : CalF P w K mg base 1 "answer_counts" ["fund", "told"] (spAns A wCounts) := by
  refine calF T.f_answer_counts sc_answer_counts (fun _ _ _ _ _ _ us hl => match us, hl with | [_, _], _ => rfl) spAns_len (fun f cdv A1 outer s0 H vs Q E hr h => ?_)
  obtain ⟨p, tl, G, M, s, cl, rfl, sg, F0, g, rfl, k⟩ := h
  obtain ⟨t, q, d, y, c, b, ys, F, hM⟩ := id F0
  obtain ⟨dp, hp⟩ := F.ins
  obtain ⟨as, hd, pd⟩ := F.deals
  obtain ⟨kvs, hc, fr⟩ := F.fixes
  refine ⟨_, (pss_one (ps_ret (pe_lst (pa_cons (pe_callB call_len_seq (by rfl) T.b_len PySem.boot_len (pa_cons (pe_fld (pv 0) rfl) pa_nil)) (pa_cons (pe_callB call_len_seq (by rfl) T.b_len PySem.boot_len (pa_cons (pe_fld (pv 0) rfl) pa_nil)) (pa_cons (pe_callB call_lenT (by rfl) T.b_len PySem.boot_len (pa_cons (pe_fld (pv 0) rfl) pa_nil)) pa_nil)))))), ?_⟩
  refine ⟨_, rfl, p, A.cFund, dp, _, _, rfl, hp, T.cl_Fund, T.na_Fund_days, rfl, y, _, rfl, .inl (SqL.of F.list), _, rfl, p, A.cFund, dp, _, _, rfl, hp, T.cl_Fund, T.na_Fund_deals, rfl, d, _, rfl, .inl (SqL.of hd),
    _, rfl, p, A.cFund, dp, _, _, rfl, hp, T.cl_Fund, T.na_Fund_corrections, rfl, c, _, rfl, hc, (by show 3 ≤ sizeLine; decide), fun l hl => ?_⟩
  rw [List.length_map, List.length_map, F.days.len, pd.len, fr.len]
  exact k.same F0 g (Ex.refl sg) (ans := [((s.days.length : Nat) : Int), ((s.deals.length : Nat) : Int), ((s.fixes.length : Nat) : Int)]) rfl hl
def wWrongs (G H : Hp) (tl : Addr) (cl : Vbfuam.Call) : Prop := cl = .wrongs
theorem ok_answer_wrongs (T : Txt K mg A) : CalF P w K mg base 8 "answer_wrongs" ["fund", "told"] (spAns A wWrongs) := by
  refine calF T.f_answer_wrongs sc_answer_wrongs (fun _ _ _ _ _ _ us hl => match us, hl with | [_, _], _ => rfl) spAns_len (fun f cdv A1 outer s0 H vs Q E hr h => ?_)
  obtain ⟨p, tl, G, M, s, cl, rfl, sg, F0, g, rfl, k⟩ := h
  obtain ⟨t, q, d, y, c, b, ys, F, hM⟩ := id F0
  obtain ⟨dp, hp⟩ := F.ins
  have rl := rights_len s
  have few := g.days
  refine ⟨_, (pss_cons (ps_set (i := 2) sc_answer_wrongs.nd rfl (Or.inl rfl) (pe_fn (ok_numbers_of_wrong_days T) (hr.mono (by decide)) rfl (pa_cons (pe_md0 (ok_Fund_history T) (hr.mono (by decide)) (pv 0)) pa_nil)))
      (pss_one (ps_ret (pe_op op_cat (pe_lst (pa_cons (pe_callB call_len_seq (by rfl) T.b_len PySem.boot_len (pa_cons (pv 2) pa_nil)) pa_nil)) (pv 2))))), ?_⟩
  refine ⟨_, rfl, p, dp, _, rfl, hp, rfl, p, t, q, d, y, c, b, ys, s, G, rfl, sg, F, g, fun h hs G1 H1 e1 hh hH pr => ⟨h, hs, Vbfuam.rights s, G1, rfl, e1.gh, hH, pr, (by omega), fun D H2 e2 hD hDl => ?_⟩⟩
  have hln : ((wints (Vbfuam.rights s) (Vbfuam.rights s).length).map V.int).length ≤ 60 := by
    rw [List.length_map]
    unfold wints
    rw [List.length_map]
    exact Nat.le_trans (wnums_le _ _) (by omega)
  refine ⟨_, rfl, D, _, rfl, .inl (SqL.of hDl), (by show 1 ≤ sizeLine; decide), fun z hz => ?_⟩
  have e3 := Ex.new (o := .lst [.int (((wints (Vbfuam.rights s) (Vbfuam.rights s).length).map V.int).length : Nat)]) e2.gh hz
  refine ⟨_, rfl, z, D, _, _, rfl, rfl, upd_same, e3.keep0 hDl, ?_, fun l hl => ?_⟩
  · exact Nat.le_trans (show 1 + _ ≤ 61 by omega) (by decide)
  · have hst : Vbfuam.step s .wrongs = (s, (((wnums (Vbfuam.rights s) s.days.length).length : Nat) : Int) :: wints (Vbfuam.rights s) s.days.length) := rfl
    rw [← rl] at hst
    have hlen : (wints (Vbfuam.rights s) (Vbfuam.rights s).length).length = (wnums (Vbfuam.rights s) (Vbfuam.rights s).length).length := by
      unfold wints
      rw [List.length_map]
    rw [← hlen] at hst
    have fin := k.same F0 g (e1.trans0 (e2.trans0 e3)) hst hl
    rw [List.length_map] at fin ⊢
    exact fin
def wOwed (G H : Hp) (tl : Addr) (cl : Vbfuam.Call) : Prop := cl = .owed
theorem ok_answer_owed (T : Txt K mg A) : CalF P w K mg base 9 "answer_owed" ["fund", "told"] (spAns A wOwed) := by
  refine calF T.f_answer_owed sc_answer_owed (fun _ _ _ _ _ _ us hl => match us, hl with | [_, _], _ => rfl) spAns_len (fun f cdv A1 outer s0 H vs Q E hr h => ?_)
  obtain ⟨p, tl, G, M, s, cl, rfl, sg, F0, g, rfl, k⟩ := h
  obtain ⟨t, q, d, y, c, b, ys, F, hM⟩ := id F0
  obtain ⟨dp, hp⟩ := F.ins
  refine ⟨_, (pss_one (ps_ret (pe_op op_cat (pe_lst (pa_cons pe_int pa_nil)) (pe_md0 (ok_Fund_owed_to_each T) (hr.mono (by decide)) (pv 0))))), ?_⟩
  refine ⟨(by show 1 ≤ sizeLine; decide), fun z hz => ?_⟩
  have e1 := Ex.new (o := .lst [.int 0]) sg hz
  have hz1 : (upd H z (.lst [.int 0])) z = _ := upd_same
  refine ⟨_, rfl, p, dp, _, rfl, e1.keep0 hp, rfl, p, t, q, d, y, c, b, ys, s, G, rfl, e1.gh, F.keep0 e1, g, fun o G2 H2 e2 ho hO => ?_⟩
  refine ⟨z, o, _, _, rfl, rfl, e2.keep0 hz1, hO, ?_, fun l hl => ?_⟩
  · show 1 + ((Vbfuam.holders.map (Vbfuam.owedBy s)).map V.int).length ≤ sizeLine
    rw [List.length_map, List.length_map]
    show 1 + 10 ≤ sizeLine
    decide
  · exact k.same F0 g (e1.trans0 e2) (ans := 0 :: Vbfuam.holders.map (Vbfuam.owedBy s)) rfl hl
def spBookAns (A : Ad) : Sp := fun vs H Q _ => ∃ bk l kk G, vs = [.ref bk] ∧ Same G H ∧ BookAt A H bk l kk ∧ kk.units.length = 10 ∧ ∀ r H1, Ex [] G H G H1 → H1 r = Option.none → Q (.ref r) (upd H1 r (.lst (([0, kk.cash] ++ kk.units).map V.int)))
theorem ok_book_answer (T : Txt K mg A) : CalF P w K mg base 1 "book_answer" ["book"] (spBookAns A) := by
  refine calF T.f_book_answer sc_book_answer (fun _ _ _ _ _ _ us hl => match us, hl with | [_], _ => rfl) (fun vs H Q E h => ?_) (fun f cdv A1 outer s0 H vs Q E hr h => ?_)
  · obtain ⟨bk, l, kk, G, rfl, _⟩ := h
    rfl
  · obtain ⟨bk, l, kk, G, rfl, sg, ⟨⟨db, hb⟩, hl⟩, h10, k⟩ := h
    refine ⟨_, (pss_one (ps_ret (pe_op op_cat (pe_lst (pa_cons pe_int (pa_cons (pe_fld (pv 0) rfl) pa_nil))) (pe_fld (pv 0) rfl)))), ?_⟩
    refine ⟨_, rfl, bk, A.cBook, db, _, _, rfl, hb, T.cl_Book, T.na_Book_cash, rfl, (by show 2 ≤ sizeLine; decide), fun z hz => ?_⟩
    have e1 := Ex.new (o := .lst [.int 0, .int kk.cash]) sg hz
    refine ⟨_, rfl, bk, A.cBook, db, _, _, rfl, e1.keep0 hb, T.cl_Book, T.na_Book_units, rfl, z, l, _, _, rfl, rfl, upd_same, e1.keep0 hl, ?_, fun r hr1 => ?_⟩
    · rw [List.length_map, h10]
      show 2 + 10 ≤ sizeLine
      decide
    · exact k r _ e1 hr1
def wBook (G H : Hp) (tl : Addr) (cl : Vbfuam.Call) : Prop := cl = .book
theorem ok_answer_book (T : Txt K mg A) : CalF P w K mg base 6 "answer_book" ["fund", "told"] (spAns A wBook) := by
  refine calF T.f_answer_book sc_answer_book (fun _ _ _ _ _ _ us hl => match us, hl with | [_, _], _ => rfl) spAns_len (fun f cdv A1 outer s0 H vs Q E hr h => ?_)
  obtain ⟨p, tl, G, M, s, cl, rfl, sg, F0, g, rfl, k⟩ := h
  obtain ⟨t, q, d, y, c, b, ys, F, hM⟩ := id F0
  obtain ⟨dp, hp⟩ := F.ins
  refine ⟨_, (pss_one (ps_ret (pe_fn (ok_book_answer T) (hr.mono (by decide)) rfl (pa_cons (pe_md0 (ok_Fund_standing_book T) (hr.mono (by decide)) (pv 0)) pa_nil)))), ?_⟩
  refine ⟨_, rfl, p, dp, _, rfl, hp, rfl, p, t, q, d, y, c, b, ys, s, G, rfl, sg, F, g, fun bk l H1 e1 hbk hl hB => ?_⟩
  exact ⟨bk, l, Vbfuam.standing s, G, rfl, e1.gh, hB, g.standing.len, fun r H2 e2 hr2 => k.same F0 g (e1.trans0 e2) (ans := [0, (Vbfuam.standing s).cash] ++ (Vbfuam.standing s).units) rfl hr2⟩
def wRightBook (G H : Hp) (tl : Addr) (cl : Vbfuam.Call) : Prop := cl = .rightbook
theorem ok_answer_rightbook (T : Txt K mg A) : CalF P w K mg base 9 "answer_rightbook" ["fund", "told"] (spAns A wRightBook) := by
  refine calF T.f_answer_rightbook sc_answer_rightbook (fun _ _ _ _ _ _ us hl => match us, hl with | [_, _], _ => rfl) spAns_len (fun f cdv A1 outer s0 H vs Q E hr h => ?_)
  obtain ⟨p, tl, G, M, s, cl, rfl, sg, F0, g, rfl, k⟩ := h
  obtain ⟨t, q, d, y, c, b, ys, F, hM⟩ := id F0
  obtain ⟨dp, hp⟩ := F.ins
  refine ⟨_, (pss_one (ps_ret (pe_fn (ok_book_answer T) (hr.mono (by decide)) rfl (pa_cons (pe_md0 (ok_Fund_right_book T) (hr.mono (by decide)) (pv 0)) pa_nil)))), ?_⟩
  refine ⟨_, rfl, p, dp, _, rfl, hp, rfl, p, t, q, d, y, c, b, ys, s, G, rfl, sg, F, g, fun bk l G1 H1 e1 hbk hl hB => ?_⟩
  exact ⟨bk, l, Vbfuam.rightBook s, G1, rfl, e1.gh, hB, g.rightBook.len, fun r H2 e2 hr2 => k.same F0 g (e1.trans0 e2) (ans := [0, (Vbfuam.rightBook s).cash] ++ (Vbfuam.rightBook s).units) rfl hr2⟩
def wHolder (G H : Hp) (tl : Addr) (cl : Vbfuam.Call) : Prop := ∃ h, cl = .holder h ∧ Ints H tl [h]
theorem ok_answer_holder (T : Txt K mg A) : CalF P w K mg base 9 "answer_holder" ["fund", "told"] (spAns A wHolder) := by
  refine calF T.f_answer_holder sc_answer_holder (fun _ _ _ _ _ _ us hl => match us, hl with | [_, _], _ => rfl) spAns_len (fun f cdv A1 outer s0 H vs Q E hr h => ?_)
  obtain ⟨p, tl, G, M, s, cl, rfl, sg, F0, g, ⟨h, rfl, ht⟩, k⟩ := h
  obtain ⟨t, q, d, y, c, b, ys, F, hM⟩ := id F0
  obtain ⟨dp, hp⟩ := F.ins
  refine ⟨_, (pss_cons (ps_set (i := 2) sc_answer_holder.nd rfl (Or.inl rfl) (pe_ix ix_list (pv 1) pe_int (fun _ _ => rfl)))
      (pss_cons (ps_if (pt_not (pt_val (pe_fn (ok_is_holder T) (hr.mono (by decide)) rfl (pa_cons (pv 2) pa_nil)))) (pss_one (ps_ret (pe_lst (pa_cons (pe_gi T.g_OUT_OF_RANGE rfl) pa_nil)))) pss_nil)
      (pss_cons (ps_set (i := 3) sc_answer_holder.nd rfl (Or.inl rfl) (pe_md (ok_Book_units_of T) (hr.mono (by decide)) (pe_md0 (ok_Fund_standing_book T) (hr.mono (by decide)) (pv 0)) (pa_cons (pv 2) pa_nil)))
      (pss_cons (ps_set (i := 4) sc_answer_holder.nd rfl (Or.inl rfl) (pe_md (ok_Book_units_of T) (hr.mono (by decide)) (pe_md0 (ok_Fund_right_book T) (hr.mono (by decide)) (pv 0)) (pa_cons (pv 2) pa_nil)))
      (pss_one (ps_ret (pe_lst (pa_cons pe_int (pa_cons (pv 3) (pa_cons (pv 4) (pa_cons (pe_ix ix_list (pe_fld (pv 0) rfl) (pe_op op_sub (pv 2) pe_int) (fun _ _ => rfl)) (pa_cons (pe_ix ix_list (pe_md0 (ok_Fund_owed_to_each T) (hr.mono (by decide)) (pv 0)) (pe_op op_sub (pv 2) pe_int) (fun _ _ => rfl)) pa_nil)))))))))))), ?_⟩
  have hS := step_holder s h
  refine ⟨_, rfl, tl, _, _, _, rfl, rfl, SqL.of ht, at0, ?_⟩
  refine ⟨_, rfl, h, rfl, _, rfl, ?_⟩
  cases c1 : Vbfuam.inside h 1 10 with
  | false =>
    rw [if_pos c1] at hS
    exact iteT ⟨(by show 1 ≤ sizeLine; decide), fun l hl => k.no F0 g (Ex.refl sg) (n := 1) rfl hS hl⟩
  | true =>
    rw [if_neg (by rw [c1]; exact fun z => nomatch z)] at hS
    obtain ⟨a1, a2⟩ := inside_iff.mp c1
    have en : nV h.toNat = V.int h := nV_toNat (by omega)
    have e10 : h.toNat ≤ 10 := by omega
    have e01 : 1 ≤ h.toNat := by omega
    refine iteF ⟨_, rfl, p, dp, _, rfl, hp, rfl, p, t, q, d, y, c, b, ys, s, G, rfl, sg, F, g, fun bk l H1 e1 hbk hl hB => ?_⟩
    obtain ⟨⟨db, hb1⟩, hl1⟩ := id hB
    refine ⟨bk, db, _, rfl, hb1, rfl, _, rfl, bk, l, _, h.toNat, (by rw [en]; rfl), hB, e01, (by rw [g.standing.len]; exact e10), ?_⟩
    refine ⟨_, rfl, p, dp, _, rfl, e1.keep0 hp, rfl, p, t, q, d, y, c, b, ys, s, G, rfl, e1.gh, F.keep0 e1, g, fun bk2 l2 G2 H2 e2 hbk2 hl2 hB2 => ?_⟩
    obtain ⟨⟨db2, hb2⟩, hll2⟩ := id hB2
    refine ⟨bk2, db2, _, rfl, hb2, rfl, _, rfl, bk2, l2, _, h.toNat, (by rw [en]; rfl), hB2, e01, (by rw [g.rightBook.len]; exact e10), ?_⟩
    have e12 := e1.trans0 e2
    have F2 := F.keep0 e12
    have nl := g.net
    have hget : (s.net.map V.int)[h.toNat - 1]? = some (V.int (s.net.getD (h.toNat - 1) 0)) := by
      rw [List.getElem?_map, getD_some (by omega)]
      rfl
    refine ⟨_, rfl, _, rfl, _, rfl, p, A.cFund, dp, _, _, rfl, e12.keep0 hp, T.cl_Fund, T.na_Fund_balances, rfl, _, rfl, _, _, rfl, rfl, b, _, _, _, rfl, rfl, SqL.of (e12.gh _ _ F2.net), at_of (j := h.toNat - 1) (by omega) hget, ?_⟩
    refine ⟨_, rfl, p, dp, _, rfl, e12.keep0 hp, rfl, p, t, q, d, y, c, b, ys, s, G2, rfl, e12.gh, F2, g, fun o G3 H3 e3 ho hO => ?_⟩
    have hget2 : ((Vbfuam.holders.map (Vbfuam.owedBy s)).map V.int)[h.toNat - 1]? = some (V.int (Vbfuam.owedBy s h.toNat)) := by
      have z := owedList_at g e01 e10
      have zl := owedList_len s
      rw [List.getElem?_map, ← owedList_eq g, getD_some (by omega), z]
      rfl
    refine ⟨_, rfl, _, _, rfl, rfl, o, _, _, _, rfl, rfl, SqL.of hO, at_of (j := h.toNat - 1) (by omega) hget2, (by show 5 ≤ sizeLine; decide), fun l hl => ?_⟩
    exact k.same F0 g (e12.trans0 e3) hS hl
def wOutcome (G H : Hp) (tl : Addr) (cl : Vbfuam.Call) : Prop := ∃ n m, cl = .outcome n m ∧ Ints H tl [n, m]
theorem ok_answer_outcome (T : Txt K mg A) : CalF P w K mg base 8 "answer_outcome" ["fund", "told"] (spAns A wOutcome) := by
  refine calF T.f_answer_outcome sc_answer_outcome (fun _ _ _ _ _ _ us hl => match us, hl with | [_, _], _ => rfl) spAns_len (fun f cdv A1 outer s0 H vs Q E hr h => ?_)
  obtain ⟨p, tl, G, M, s, cl, rfl, sg, F0, g, ⟨n, m, rfl, ht⟩, k⟩ := h
  obtain ⟨t, q, d, y, c, b, ys, F, hM⟩ := id F0
  obtain ⟨dp, hp⟩ := F.ins
  refine ⟨_, (pss_cons (ps_set (i := 2) sc_answer_outcome.nd rfl (Or.inl rfl) (pe_ix ix_list (pv 1) pe_int (fun _ _ => rfl)))
      (pss_cons (ps_set (i := 3) sc_answer_outcome.nd rfl (Or.inl rfl) (pe_ix ix_list (pv 1) pe_int (fun _ _ => rfl)))
      (pss_cons (ps_if (pt_not (pt_chain op_le op_le pe_int (pv 3) (pe_gi T.g_MOST_DEALS rfl))) (pss_one (ps_ret (pe_lst (pa_cons (pe_gi T.g_OUT_OF_RANGE rfl) pa_nil)))) pss_nil)
      (pss_cons (ps_set (i := 4) sc_answer_outcome.nd rfl (Or.inl rfl) (pe_fn (ok_day_refusal T) (hr.mono (by decide)) rfl (pa_cons (pv 0) (pa_cons (pv 2) pa_nil))))
      (pss_cons (ps_if (pt_cmpR op_lt (pv 4) pe_int (nomark _)) (pss_one (ps_ret (pe_lst (pa_cons (pv 4) pa_nil)))) pss_nil)
      (pss_cons (ps_set (i := 5) sc_answer_outcome.nd rfl (Or.inl rfl) (pe_ix ix_list (pe_fld (pv 0) rfl) (pe_op op_sub (pv 2) pe_int) (fun _ _ => rfl)))
      (pss_cons (ps_if (pt_cmpR op_gt (pv 3) (pe_callB call_len_seq (by rfl) T.b_len PySem.boot_len (pa_cons (pe_fld (pv 5) rfl) pa_nil)) (nomark _)) (pss_one (ps_ret (pe_lst (pa_cons (pe_gi T.g_NOT_THERE rfl) pa_nil)))) pss_nil)
      (pss_cons (ps_set (i := 6) sc_answer_outcome.nd rfl (Or.inl rfl) (pe_ix ix_list (pe_md0 (ok_Fund_history T) (hr.mono (by decide)) (pv 0)) (pe_op op_sub (pv 2) pe_int) (fun _ _ => rfl)))
      (pss_cons (ps_set (i := 7) sc_answer_outcome.nd rfl (Or.inl rfl) (pe_lst (pa_cons (pe_fld (pe_ix ix_list (pe_fld (pv 5) rfl) (pe_op op_sub (pv 3) pe_int) (fun _ _ => rfl)) rfl) pa_nil)))
      (pss_cons (ps_for PassesOwn.never rfl (pi_tup (pe_tup (pa_cons (pe_fld (pv 5) rfl) (pa_cons (pe_fld (pv 5) rfl) (pa_cons (pe_fld (pv 6) rfl) pa_nil))))) (pg_name (i := 8) sc_answer_outcome.nd rfl (Or.inl rfl))
      (pss_cons (ps_set (i := 9) sc_answer_outcome.nd rfl (Or.inl rfl) (pe_ix ix_list (pe_fld (pv 8) rfl) (pe_op op_sub (pv 3) pe_int) (fun _ _ => rfl)))
      (pss_one (ps_expr (pe_bm PySem.F.plainAttrs_list PySem.F.slot_list_extend PySem.F.type_list_extend mt_extend (pv 7) (pa_cons (pe_lst (pa_cons (pe_fld (pv 9) rfl) (pa_cons (pe_fld (pv 9) rfl) pa_nil))) pa_nil))))))
      (pss_one (ps_ret (pv 7))))))))))))), ?_⟩
  have e0 := Ex.refl sg
  have hS := step_outcome s n m
  refine ⟨_, rfl, tl, _, _, _, rfl, rfl, SqL.of ht, at0, ?_⟩
  refine ⟨_, rfl, tl, _, _, _, rfl, rfl, SqL.of ht, at1, ?_⟩
  refine ⟨_, rfl, rd_inT ?_⟩
  cases c1 : Vbfuam.inside m 1 10 with
  | false =>
    rw [if_pos c1] at hS
    exact iteT ⟨(by show 1 ≤ sizeLine; decide), fun l hl => k.no F0 g e0 (n := 1) rfl hS hl⟩
  | true =>
    rw [if_neg (by rw [c1]; exact fun z => nomatch z)] at hS
    obtain ⟨m1, m2⟩ := inside_iff.mp c1
    refine iteF ⟨_, rfl, _, rfl, p, M, s, n, G, rfl, F0, ?_⟩
    refine ⟨_, rfl, _, _, rfl, rfl, _, rfl, ?_⟩
    rcases refusal_cases s n with ⟨h1, h2⟩ | ⟨h1, h2, h3⟩ | ⟨h1, h2, x, h3⟩
    · rw [h1]
      exact iteT ⟨_, rfl, (by show 1 ≤ sizeLine; decide), fun l hl => k.no F0 g e0 (n := 1) rfl (hS.trans (onDay1 h2)) hl⟩
    · rw [h1]
      exact iteT ⟨_, rfl, (by show 1 ≤ sizeLine; decide), fun l hl => k.no F0 g e0 (n := 4) rfl (hS.trans (onDay4 h2 h3)) hl⟩
    · rw [h1]
      rw [onDay0 h2 h3] at hS
      refine iteF ?_
      obtain ⟨ay, hay, yq, yl, yr, yp, yst, ⟨dy, hy⟩, y1, ⟨as, hyl, pd⟩, y3, y4, y5⟩ := F.days.left h3
      obtain ⟨i1, i2⟩ := inside_iff.mp h2
      have l0 := pd.len
      have dk := g.dayAt h3
      refine ⟨_, rfl, p, A.cFund, dp, _, _, rfl, hp, T.cl_Fund, T.na_Fund_days, rfl, _, rfl, _, _, rfl, rfl, y, _, _, _, rfl, rfl, SqL.of F.list, at_of (j := n.toNat - 1) (by omega) (get_refs hay), ?_⟩
      refine ⟨_, rfl, _, rfl, ay, A.cDay, dy, _, _, rfl, hy, T.cl_ClosedDay, T.na_ClosedDay_deals, rfl, yl, _, rfl, .inl (SqL.of (sg _ _ hyl)), _, _, rfl, rfl, _, rfl, ?_⟩
      rw [List.length_map, l0]
      by_cases hm : (x.deals.length : Int) < m
      · rw [decide_eq_true hm]
        have hnone : x.deals[m.toNat - 1]? = Option.none := List.getElem?_eq_none (by omega)
        rw [hnone] at hS
        exact iteT ⟨(by show 1 ≤ sizeLine; decide), fun l hl => k.no F0 g e0 (n := 4) rfl hS hl⟩
      · rw [decide_eq_false hm]
        have hlt : m.toNat - 1 < x.deals.length := by omega
        have hdl : x.deals[m.toNat - 1]? = some x.deals[m.toNat - 1] := List.getElem?_eq_getElem hlt
        generalize hde : x.deals[m.toNat - 1] = e at hdl
        have hri := rights_at h3
        generalize hrr : Vbfuam.judged s (n.toNat - 1 + 1) x (bookTo s (n.toNat - 1)) = r at hri
        have ro : OutsOk x.deals.length r.outs := by
          rw [← hrr]
          exact judged_outs dk
        have ho1 : x.first[m.toNat - 1]? = some (x.first[m.toNat - 1]'(by rw [dk.first.len]; exact hlt)) := List.getElem?_eq_getElem _
        have ho2 : x.outs[m.toNat - 1]? = some (x.outs[m.toNat - 1]'(by rw [dk.outs.len]; exact hlt)) := List.getElem?_eq_getElem _
        have ho3 : r.outs[m.toNat - 1]? = some (r.outs[m.toNat - 1]'(by rw [ro.len]; exact hlt)) := List.getElem?_eq_getElem _
        generalize x.first[m.toNat - 1]'(by rw [dk.first.len]; exact hlt) = o1 at ho1
        generalize x.outs[m.toNat - 1]'(by rw [dk.outs.len]; exact hlt) = o2 at ho2
        generalize r.outs[m.toNat - 1]'(by rw [ro.len]; exact hlt) = o3 at ho3
        rw [hdl, hri] at hS
        have hS2 : Vbfuam.step s (.outcome n m) = (s, [(e.holder : Int)] ++ Vbfuam.flat [o1, o2, o3]) := by
          refine hS.trans ?_
          show Vbfuam.yes s ([(e.holder : Int)] ++ Vbfuam.flat ((x.first.drop (m.toNat - 1)).take 1 ++ ((x.outs.drop (m.toNat - 1)).take 1 ++ (r.outs.drop (m.toNat - 1)).take 1))) = _
          rw [drop_one ho1, drop_one ho2, drop_one ho3]
          rfl
        refine iteF ⟨_, rfl, p, dp, _, rfl, hp, rfl, p, t, q, d, y, c, b, ys, s, G, rfl, sg, F, g, fun h hs G1 H1 e1 hh hH pr => ?_⟩
        obtain ⟨ar, har, rc, ff, rp, ⟨dxr, hr1⟩, hr2, hr3⟩ := pr.left hri
        refine ⟨_, rfl, _, _, rfl, rfl, h, _, _, _, rfl, rfl, SqL.of hH, at_of (j := n.toNat - 1) (by omega) (get_refs har), ?_⟩
        obtain ⟨ad, had, dd, hd1⟩ := pd.left hdl
        have hy1 := e1.keep0 hy
        refine ⟨_, rfl, ay, A.cDay, dy, _, _, rfl, hy1, T.cl_ClosedDay, T.na_ClosedDay_deals, rfl, _, rfl, _, _, rfl, rfl, yl, _, _, _, rfl, rfl, SqL.of (e1.gh _ _ (e1.gg _ _ hyl)), at_of (j := m.toNat - 1) (by omega) (get_refs had),
          ad, A.cDeal, dd, _, _, rfl, e1.gh _ _ (e1.gg _ _ hd1), T.cl_Deal, T.na_Deal_holder, rfl, (by show 1 ≤ sizeLine; decide), fun an han => ?_⟩
        have e2 := Ex.new (o := .lst [nV e.holder]) e1.gh han
        have han2 : (upd H1 an (.lst [nV e.holder])) an = _ := upd_same
        have hy2 := e2.keep0 hy1
        refine ⟨_, rfl, ay, A.cDay, dy, _, _, rfl, hy2, T.cl_ClosedDay, T.na_ClosedDay_published, rfl, _, rfl, ay, A.cDay, dy, _, _, rfl, hy2, T.cl_ClosedDay, T.na_ClosedDay_standing, rfl, _, rfl, ar, A.cRight, dxr, _, _, rfl, e2.gh _ _ hr1, T.cl_RightDay, T.na_RightDay_result, rfl,
          (by show 3 ≤ sizeLine; decide), fun tp htp => ?_⟩
        have e3 := Ex.new (o := .tup [.ref yp, .ref yst, .ref rp]) e2.gh htp
        have htp3 : (upd (upd H1 an (.lst [nV e.holder])) tp (.tup [.ref yp, .ref yst, .ref rp])) tp = _ := upd_same
        have three : P2 (fun a o => ∃ fee os, ResAt A G1 a fee os ∧ os[m.toNat - 1]? = some o) [yp, yst, rp] [o1, o2, o3] :=
          .cons ⟨_, _, y4.mono e1.gg, ho1⟩ (.cons ⟨_, _, y5.mono e1.gg, ho2⟩ (.cons ⟨_, _, hr3, ho3⟩ .nil))
        have hanH : H an = Option.none := e1.freeH han
        refine ⟨tp, rfl, ⟨_, SqT.of htp3⟩, for_tup (K := K) (a := tp) (xs := [yp, yst, rp].map V.ref)
          (fun i σ H' => ∃ v8 v9, σ = [some (.ref p), some (.ref tl), some (.int n), some (.int m), some (.int 0), some (.ref ay), some (.ref ar), some (.ref an), v8, v9] ∧ Ex [] G H G1 H' ∧ H' tp = some (.tup ([yp, yst, rp].map V.ref)) ∧ Ints H' an ([(e.holder : Int)] ++ Vbfuam.flat ([o1, o2, o3].take i)))
          ⟨Option.none, Option.none, rfl, e1.trans0 (e2.trans0 e3), htp3, e3.keep0 han2⟩ ?_ ?_ ?_⟩
        · rintro i σ H' hi ⟨v8, v9, rfl, ee, ht', _⟩
          exact SqT.of ht'
        · rintro i v σ H' hv ⟨v8, v9, rfl, ee, ht', ha'⟩
          obtain ⟨a, ha, rfl⟩ := refs_get hv
          obtain ⟨o, hoo, fee, os, ⟨ol, ⟨da, hra⟩, oas, hol, po⟩, hoi⟩ := three.right ha
          obtain ⟨ao, hao, dao, hao2⟩ := po.left hoi
          have hil : i < 3 := (List.getElem?_eq_some_iff.mp hoo).1
          refine ⟨_, rfl, a, A.cRes, da, _, _, rfl, ee.gh _ _ hra, T.cl_DayResult, T.na_DayResult_outcomes, rfl, _, rfl, _, _, rfl, rfl, ol, _, _, _, rfl, rfl, SqL.of (ee.gh _ _ hol), at_of (j := m.toNat - 1) (by omega) (get_refs hao), ?_⟩
          refine ⟨_, rfl, .inl ⟨rfl, _, SqL.of ha'⟩, _, rfl, ao, A.cOut, dao, _, _, rfl, ee.gh _ _ hao2, T.cl_Outcome, T.na_Outcome_money, rfl, _, rfl, ao, A.cOut, dao, _, _, rfl, ee.gh _ _ hao2, T.cl_Outcome, T.na_Outcome_units, rfl, (by show 2 ≤ sizeLine; decide), fun z hz => ?_⟩
          have e5 := Ex.new (o := .lst [.int o.money, .int o.units]) ee.gh hz
          have ha5 := e5.keep0 ha'
          have gan : G1 an = Option.none := e1.gh.free han
          have e6 := Ex.put (o := .lst (([(e.holder : Int)] ++ Vbfuam.flat ([o1, o2, o3].take i)).map V.int ++ [.int o.money, .int o.units])) e5.gh gan (some_ne ha5)
          have ntp : tp ≠ an := ne_of ht' ha' (by intro z; cases z)
          refine ⟨an, z, _, _, rfl, rfl, ha5, upd_same, ?_, _, _, rfl, ?_, ?_, ?_⟩
          · rw [List.length_map, List.length_append]
            have hfl : (Vbfuam.flat ([o1, o2, o3].take i)).length ≤ 6 := by
              match i, hil with
              | 0, _ => show 0 ≤ 6; omega
              | 1, _ => show 2 ≤ 6; omega
              | 2, _ => show 4 ≤ 6; omega
            exact Nat.le_trans (show 1 + _ + 2 ≤ 9 by omega) (by decide)
          · exact ((ee.trans e5).trans e6).drop (by simp [hanH])
          · exact e6.keep (e5.keep0 ht') (show tp ∉ [an] from by simp; exact ntp)
          · show upd _ _ _ _ = _
            rw [upd_same, take_snoc hoo]
            unfold Vbfuam.flat
            rw [List.flatMap_append, ← List.append_assoc, List.map_append (l₁ := [(e.holder : Int)] ++ _)]
            rfl
        · rintro σ H' ⟨v8, v9, rfl, ee, ht', ha'⟩
          refine ⟨_, rfl, k an G1 H' M ee.w0 (fun a h => .inl h) hanH (e1.gh.free han) ?_ ?_ ?_⟩
          · rw [hS2]
            exact ha'
          · rw [hS2]
            exact F0.keep0 ee
          · rw [hS2]
            exact g
end
end My
set_option Elab.async false
set_option linter.all false
set_option maxRecDepth 100000
set_option maxHeartbeats 2000000
namespace My
open PySem PySem.Spec PyProof.Rows L2
open Vbfuam (State Deal Out Day Fix Book Right)
theorem cut_ints {ns : List Int} {n m : Nat} (h : n + m ≤ ns.length) : cutV (ns.map V.int) (some (n : Int)) (some ((n : Int) + (m : Int))) = ((ns.drop n).take m).map V.int := by
  unfold cutV
  have e : (n : Int) + (m : Int) = ((n + m : Nat) : Int) := by omega
  rw [e, HT.sIx_nat, HT.sIx_nat, List.length_map]
  have e1 : min n ns.length = n := by omega
  have e2 : min (n + m) ns.length = n + m := by omega
  rw [e1, e2, Nat.add_sub_cancel_left, List.map_take, List.map_drop]
section
variable {P : Program} {w : World} {K : PySem.W.Frag} {mg : Str → Option Value} {base : Heap} {A : Ad}
def fRd (a : Addr) (n : Nat) : Fs := fRead (.ref a) (nV n)
theorem ok_CallReader (T : Txt K mg A) : CalC P w K mg base 1 "CallReader" A.cRead ["self", "calls"] (spRec A.cRead 1 (fs1 fun c => fRead c (.int 0))) := by
  refine calC T.f_CallReader sc_CallReader_init (fun _ _ _ _ _ _ us hl => match us, hl with | [_, _], _ => rfl) (fun vs H Q E h => ?_) (fun f cdv A1 outer s H vs Q E hr h => ?_)
  · obtain ⟨x, dx, xs, rfl, hl, _⟩ := h
    exact congrArg (· + 1) hl
  · obtain ⟨x, dx, xs, rfl, hl, hx, k⟩ := h
    match xs, hl, k with
    | [a], _, k =>
      refine ⟨_, (pss_cons (ps_fld (pv 0) (pv 1) rfl) (pss_one (ps_fld (pv 0) pe_int rfl))), ?_⟩
      refine ⟨_, rfl, _, rfl, x, A.cRead, dx, _, rfl, hx, T.cl_CallReader, T.na_CallReader_calls, (by show 0 < 1000; decide), ?_⟩
      refine ⟨_, rfl, x, A.cRead, dx, _, rfl, upd_same, T.cl_CallReader, T.na_CallReader_place, (by show 1 < 1000; decide), ?_⟩
      show Q .non _
      rw [upd_upd]
      exact k
structure Rdr (K : PySem.W.Frag) (A : Ad) (G H : Hp) (r dx a : Addr) (n : Nat) (ns : List Int) : Prop where
  sg : Same G H
  gr : G r = Option.none
  at_ : H r = some (.ins A.cRead dx (fRd a n))
  list : SqL K G a (ns.map V.int)
theorem Rdr.seq {G H : Hp} {r dx a : Addr} {n : Nat} {ns : List Int} (R : Rdr K A G H r dx a n ns) : SqL K H a (ns.map V.int) := R.sg.seq R.list
theorem Rdr.put {G H : Hp} {r dx a : Addr} {n m : Nat} {ns : List Int} (R : Rdr K A G H r dx a n ns) : Rdr K A G (upd H r (.ins A.cRead dx (fRd a m))) r dx a m ns := ⟨same_upd R.sg R.gr, R.gr, upd_same, R.list⟩
def spEnd (K : PySem.W.Frag) (A : Ad) : Sp := fun vs H Q _ => ∃ r dx a n, ∃ ns : List Int, ∃ G, vs = [.ref r] ∧ Rdr K A G H r dx a n ns ∧ Q (.bl (decide (ns.length ≤ n))) H
theorem ok_CallReader_at_end (T : Txt K mg A) : CalM P w K mg base 1 A.cRead "at_end" ["self"] (spEnd K A) := by
  refine calM T.f_CallReader_at_end T.cl_CallReader sc_CallReader_at_end (fun _ _ _ _ _ _ us hl => match us, hl with | [_], _ => rfl) (fun vs H Q E h => ?_) (fun f cdv A1 outer s H vs Q E hr h => ?_)
  · obtain ⟨r, dx, a, n, ns, G, rfl, _⟩ := h
    rfl
  · obtain ⟨r, dx, a, n, ns, G, rfl, R, k⟩ := h
    refine ⟨_, (pss_one (ps_ret (pe_cmpR op_ge (pe_fld (pv 0) rfl) (pe_callB call_len_seq (by rfl) T.b_len PySem.boot_len (pa_cons (pe_fld (pv 0) rfl) pa_nil)) (nomark _)))), ?_⟩
    refine ⟨_, rfl, r, A.cRead, dx, _, _, rfl, R.at_, T.cl_CallReader, T.na_CallReader_place, rfl, _, rfl, r, A.cRead, dx, _, _, rfl, R.at_, T.cl_CallReader, T.na_CallReader_calls, rfl, a, _, rfl, .inl R.seq, _, _, rfl, rfl, ?_⟩
    rw [List.length_map]
    have e : decide ((ns.length : Int) ≤ (n : Int)) = decide (ns.length ≤ n) := decide_eq_decide.mpr (by omega)
    show Q (.bl (decide ((ns.length : Int) ≤ (n : Int)))) H
    rw [e]
    exact k
def spNum (K : PySem.W.Frag) (A : Ad) : Sp := fun vs H Q _ => ∃ r dx a n, ∃ ns : List Int, ∃ z G, vs = [.ref r] ∧ Rdr K A G H r dx a n ns ∧ ns[n]? = some z ∧ Q (.int z) (upd H r (.ins A.cRead dx (fRd a (n + 1))))
theorem ok_CallReader_take_number (T : Txt K mg A) : CalM P w K mg base 1 A.cRead "take_number" ["self"] (spNum K A) := by
  refine calM T.f_CallReader_take_number T.cl_CallReader sc_CallReader_take_number (fun _ _ _ _ _ _ us hl => match us, hl with | [_], _ => rfl) (fun vs H Q E h => ?_) (fun f cdv A1 outer s H vs Q E hr h => ?_)
  · obtain ⟨r, dx, a, n, ns, z, G, rfl, _⟩ := h
    rfl
  · obtain ⟨r, dx, a, n, ns, z, G, rfl, R, hz, k⟩ := h
    refine ⟨_, (pss_cons (ps_set (i := 1) sc_CallReader_take_number.nd rfl (Or.inl rfl) (pe_ix ix_list (pe_fld (pv 0) rfl) (pe_fld (pv 0) rfl) (fun _ _ => rfl)))
      (pss_cons (ps_fldaug (pv 0) pe_int in_add)
      (pss_one (ps_ret (pv 1))))), ?_⟩
    have hget : (ns.map V.int)[n]? = some (V.int z) := by
      rw [List.getElem?_map, hz]
      rfl
    refine ⟨_, rfl, r, A.cRead, dx, _, _, rfl, R.at_, T.cl_CallReader, T.na_CallReader_calls, rfl, _, rfl, r, A.cRead, dx, _, _, rfl, R.at_, T.cl_CallReader, T.na_CallReader_place, rfl, a, _, _, _, rfl, rfl, R.seq, atI_nat hget, ?_⟩
    exact ⟨_, rfl, r, A.cRead, dx, _, _, rfl, R.at_, T.cl_CallReader, T.na_CallReader_place, rfl, _, _, rfl, rfl, dx, _, R.at_, (by show 2 < 1000; decide), _, rfl, k⟩
def spSev (K : PySem.W.Frag) (A : Ad) : Sp := fun vs H Q _ => ∃ r dx a n, ∃ ns : List Int, ∃ m G, vs = [.ref r, .int ((m : Nat) : Int)] ∧ Rdr K A G H r dx a n ns ∧ n + m ≤ ns.length ∧
  ∀ p, H p = Option.none → Q (.ref p) (upd (upd H p (.lst (((ns.drop n).take m).map V.int))) r (.ins A.cRead dx (fRd a (n + m))))
theorem ok_CallReader_take_several (T : Txt K mg A) : CalM P w K mg base 1 A.cRead "take_several" ["self", "length"] (spSev K A) := by
  refine calM T.f_CallReader_take_several T.cl_CallReader sc_CallReader_take_several (fun _ _ _ _ _ _ us hl => match us, hl with | [_, _], _ => rfl) (fun vs H Q E h => ?_) (fun f cdv A1 outer s H vs Q E hr h => ?_)
  · obtain ⟨r, dx, a, n, ns, m, G, rfl, _⟩ := h
    rfl
  · obtain ⟨r, dx, a, n, ns, m, G, rfl, R, hm, k⟩ := h
    refine ⟨_, (pss_cons (ps_set (i := 2) sc_CallReader_take_several.nd rfl (Or.inl rfl) (pe_slice sl_list (pe_fld (pv 0) rfl) (po_some (pe_fld (pv 0) rfl)) (po_some (pe_op op_add (pe_fld (pv 0) rfl) (pv 1)))))
      (pss_cons (ps_fldaug (pv 0) (pv 1) in_add)
      (pss_one (ps_ret (pv 2))))), ?_⟩
    refine ⟨_, rfl, r, A.cRead, dx, _, _, rfl, R.at_, T.cl_CallReader, T.na_CallReader_calls, rfl, _, rfl, r, A.cRead, dx, _, _, rfl, R.at_, T.cl_CallReader, T.na_CallReader_place, rfl, _, rfl, _, rfl, r, A.cRead, dx, _, _, rfl, R.at_, T.cl_CallReader, T.na_CallReader_place, rfl, _, rfl, _, _, rfl, rfl, _, rfl,
      a, _, rfl, R.seq, fun p hp => ?_⟩
    rw [cut_ints hm]
    have hr2 : (upd H p (.lst (((ns.drop n).take m).map V.int))) r = some (.ins A.cRead dx (fRd a n)) := by
      rw [upd_ne (ne_of_none R.at_ hp)]
      exact R.at_
    exact ⟨_, rfl, r, A.cRead, dx, _, _, rfl, hr2, T.cl_CallReader, T.na_CallReader_place, rfl, _, rfl, _, _, rfl, rfl, dx, _, hr2, (by show 2 < 1000; decide), _, rfl, k p hp⟩
def spTakeRow (K : PySem.W.Frag) (A : Ad) : Sp := fun vs H Q _ => ∃ r dx a n, ∃ ns : List Int, ∃ m G, vs = [.ref r] ∧ Rdr K A G H r dx a n ns ∧ ns[n]? = some ((m : Nat) : Int) ∧ n + 1 + m ≤ ns.length ∧
  ∀ p, H p = Option.none → Q (.ref p) (upd (upd H p (.lst (((ns.drop (n + 1)).take m).map V.int))) r (.ins A.cRead dx (fRd a (n + 1 + m))))
theorem ok_CallReader_take_row (T : Txt K mg A) : CalM P w K mg base 2 A.cRead "take_row" ["self"] (spTakeRow K A) := by
  refine calM T.f_CallReader_take_row T.cl_CallReader sc_CallReader_take_row (fun _ _ _ _ _ _ us hl => match us, hl with | [_], _ => rfl) (fun vs H Q E h => ?_) (fun f cdv A1 outer s H vs Q E hr h => ?_)
  · obtain ⟨r, dx, a, n, ns, m, G, rfl, _⟩ := h
    rfl
  · obtain ⟨r, dx, a, n, ns, m, G, rfl, R, hz, hm, k⟩ := h
    refine ⟨_, (pss_one (ps_ret (pe_md (ok_CallReader_take_several T) (hr.mono (by decide)) (pv 0) (pa_cons (pe_md0 (ok_CallReader_take_number T) (hr.mono (by decide)) (pv 0)) pa_nil)))), ?_⟩
    refine ⟨_, rfl, r, dx, _, rfl, R.at_, rfl, _, rfl, r, dx, _, rfl, R.at_, rfl, r, dx, a, n, ns, _, G, rfl, R, hz, ?_⟩
    refine ⟨r, dx, a, n + 1, ns, m, G, rfl, R.put, hm, fun p hp => ?_⟩
    have hp0 : H p = Option.none := by
      by_cases e : p = r
      · rw [e, upd_same] at hp
        cases hp
      · rw [upd_ne e] at hp
        exact hp
    have hpr : p ≠ r := fun e => by rw [e, R.at_] at hp0; cases hp0
    rw [upd_comm (Ne.symm hpr), upd_upd]
    exact k p hp0
end
end My
set_option Elab.async false
set_option linter.all false
set_option maxRecDepth 100000
set_option maxHeartbeats 2000000
namespace My
open Vbfuam (State Deal Out Day Fix Book Right)
open PyFlat (put put1 putRows putRow okCall told played)
abbrev Call1 := List (List Int)
theorem len0 {α : Type} {l : List α} (h : 0 = l.length) : l = [] := List.length_eq_zero_iff.mp h.symm
theorem len1 {α : Type} : ∀ {l : List α}, 1 = l.length → ∃ a, l = [a]
  | [a], _ => ⟨a, rfl⟩
theorem len2 {α : Type} : ∀ {l : List α}, 2 = l.length → ∃ a b, l = [a, b]
  | [a, b], _ => ⟨a, b, rfl⟩
theorem len3 {α : Type} : ∀ {l : List α}, 3 = l.length → ∃ a b c, l = [a, b, c]
  | [a, b, c], _ => ⟨a, b, c, rfl⟩
theorem pair_inj {a b c d : Nat} (h : some (a, b) = some (c, d)) : a = c ∧ b = d := Prod.mk.inj (Option.some.inj h)
theorem call_cases {c : Call1} (h : okCall PyVbfuam.shape c) :
    (∃ x y z q u, c = [[0, x, y, z], q, u]) ∨ (∃ x y, c = [[1, x, y]]) ∨ (∃ x y z, c = [[2, x, y, z]]) ∨ c = [[3]] ∨ (∃ x y z, c = [[4, x, y, z]]) ∨ c = [[5]] ∨ (∃ x, c = [[6, x]]) ∨ (∃ x, c = [[7, x]]) ∨
    (∃ x y, c = [[8, x, y]]) ∨ (∃ x, c = [[9, x]]) ∨ c = [[10]] ∨ c = [[11]] ∨ c = [[12]] ∨ c = [[13]] ∨ c = [[14]] := by
  obtain ⟨p, a, xs, rfl, hs⟩ := h
  unfold PyVbfuam.shape at hs
  by_cases h0 : p = 0
  · rw [if_pos h0] at hs
    obtain ⟨h1, h2⟩ := pair_inj hs
    obtain ⟨x, y, z, rfl⟩ := len3 h1
    obtain ⟨q, u, rfl⟩ := len2 h2
    subst h0
    exact .inl ⟨x, y, z, q, u, rfl⟩
  rw [if_neg h0] at hs
  by_cases h1 : p = 1
  · rw [if_pos h1] at hs
    obtain ⟨h2, h3⟩ := pair_inj hs
    obtain ⟨x, y, rfl⟩ := len2 h2
    obtain rfl := len0 h3
    subst h1
    exact .inr (.inl ⟨x, y, rfl⟩)
  rw [if_neg h1] at hs
  by_cases h2 : p = 2
  · rw [if_pos h2] at hs
    obtain ⟨h3, h4⟩ := pair_inj hs
    obtain ⟨x, y, z, rfl⟩ := len3 h3
    obtain rfl := len0 h4
    subst h2
    exact .inr (.inr (.inl ⟨x, y, z, rfl⟩))
  rw [if_neg h2] at hs
  by_cases h3 : p = 3
  · rw [if_pos h3] at hs
    obtain ⟨h4, h5⟩ := pair_inj hs
    obtain rfl := len0 h4
    obtain rfl := len0 h5
    subst h3
    exact .inr (.inr (.inr (.inl rfl)))
  rw [if_neg h3] at hs
  by_cases h4 : p = 4
  · rw [if_pos h4] at hs
    obtain ⟨h5, h6⟩ := pair_inj hs
    obtain ⟨x, y, z, rfl⟩ := len3 h5
    obtain rfl := len0 h6
    subst h4
    exact .inr (.inr (.inr (.inr (.inl ⟨x, y, z, rfl⟩))))
  rw [if_neg h4] at hs
  by_cases h5 : p = 5
  · rw [if_pos h5] at hs
    obtain ⟨h6, h7⟩ := pair_inj hs
    obtain rfl := len0 h6
    obtain rfl := len0 h7
    subst h5
    exact .inr (.inr (.inr (.inr (.inr (.inl rfl)))))
  rw [if_neg h5] at hs
  by_cases h6 : p = 6
  · rw [if_pos h6] at hs
    obtain ⟨h7, h8⟩ := pair_inj hs
    obtain ⟨x, rfl⟩ := len1 h7
    obtain rfl := len0 h8
    subst h6
    exact .inr (.inr (.inr (.inr (.inr (.inr (.inl ⟨x, rfl⟩))))))
  rw [if_neg h6] at hs
  by_cases h7 : p = 7
  · rw [if_pos h7] at hs
    obtain ⟨h8, h9⟩ := pair_inj hs
    obtain ⟨x, rfl⟩ := len1 h8
    obtain rfl := len0 h9
    subst h7
    exact .inr (.inr (.inr (.inr (.inr (.inr (.inr (.inl ⟨x, rfl⟩)))))))
  rw [if_neg h7] at hs
  by_cases h8 : p = 8
  · rw [if_pos h8] at hs
    obtain ⟨h9, h10⟩ := pair_inj hs
    obtain ⟨x, y, rfl⟩ := len2 h9
    obtain rfl := len0 h10
    subst h8
    exact .inr (.inr (.inr (.inr (.inr (.inr (.inr (.inr (.inl ⟨x, y, rfl⟩))))))))
  rw [if_neg h8] at hs
  by_cases h9 : p = 9
  · rw [if_pos h9] at hs
    obtain ⟨h10, h11⟩ := pair_inj hs
    obtain ⟨x, rfl⟩ := len1 h10
    obtain rfl := len0 h11
    subst h9
    exact .inr (.inr (.inr (.inr (.inr (.inr (.inr (.inr (.inr (.inl ⟨x, rfl⟩)))))))))
  rw [if_neg h9] at hs
  by_cases h10 : p = 10
  · rw [if_pos h10] at hs
    obtain ⟨h11, h12⟩ := pair_inj hs
    obtain rfl := len0 h11
    obtain rfl := len0 h12
    subst h10
    exact .inr (.inr (.inr (.inr (.inr (.inr (.inr (.inr (.inr (.inr (.inl rfl))))))))))
  rw [if_neg h10] at hs
  by_cases h11 : p = 11
  · rw [if_pos h11] at hs
    obtain ⟨h12, h13⟩ := pair_inj hs
    obtain rfl := len0 h12
    obtain rfl := len0 h13
    subst h11
    exact .inr (.inr (.inr (.inr (.inr (.inr (.inr (.inr (.inr (.inr (.inr (.inl rfl)))))))))))
  rw [if_neg h11] at hs
  by_cases h12 : p = 12
  · rw [if_pos h12] at hs
    obtain ⟨h13, h14⟩ := pair_inj hs
    obtain rfl := len0 h13
    obtain rfl := len0 h14
    subst h12
    exact .inr (.inr (.inr (.inr (.inr (.inr (.inr (.inr (.inr (.inr (.inr (.inr (.inl rfl))))))))))))
  rw [if_neg h12] at hs
  by_cases h13 : p = 13
  · rw [if_pos h13] at hs
    obtain ⟨h14, h15⟩ := pair_inj hs
    obtain rfl := len0 h14
    obtain rfl := len0 h15
    subst h13
    exact .inr (.inr (.inr (.inr (.inr (.inr (.inr (.inr (.inr (.inr (.inr (.inr (.inr (.inl rfl)))))))))))))
  rw [if_neg h13] at hs
  by_cases h14 : p = 14
  · rw [if_pos h14] at hs
    obtain ⟨h15, h16⟩ := pair_inj hs
    obtain rfl := len0 h15
    obtain rfl := len0 h16
    subst h14
    exact .inr (.inr (.inr (.inr (.inr (.inr (.inr (.inr (.inr (.inr (.inr (.inr (.inr (.inr rfl)))))))))))))
  rw [if_neg h14] at hs
  cases hs
theorem whole_id {c : Call1} (h : okCall PyVbfuam.shape c) : PyVbfuam.whole c = c := by
  rcases call_cases h with ⟨x, y, z, q, u, rfl⟩ | ⟨x, y, rfl⟩ | ⟨x, y, z, rfl⟩ | rfl | ⟨x, y, z, rfl⟩ | rfl | ⟨x, rfl⟩ | ⟨x, rfl⟩ | ⟨x, y, rfl⟩ | ⟨x, rfl⟩ | rfl | rfl | rfl | rfl | rfl <;> rfl
theorem wholes_id : ∀ {cs : List Call1}, (∀ c ∈ cs, okCall PyVbfuam.shape c) → cs.map PyVbfuam.whole = cs
  | [], _ => rfl
  | c :: cs, h => by
    rw [List.map_cons, whole_id (h c List.mem_cons_self), wholes_id fun d hd => h d (List.mem_cons_of_mem _ hd)]
def after (s : State) (cs : List Call1) : State := cs.foldl (fun s c => (VbfuamNeutral.step s c).1) s
theorem after_snoc (s : State) (cs : List Call1) (c : Call1) : after s (cs ++ [c]) = (VbfuamNeutral.step (after s cs) c).1 := by
  unfold after
  rw [List.foldl_append]
  rfl
theorem played_snoc (c : Call1) : ∀ (cs : List Call1) (s : State), played VbfuamNeutral.step s (cs ++ [c]) = played VbfuamNeutral.step s cs ++ [(VbfuamNeutral.step (after s cs) c).2]
  | [], _ => rfl
  | d :: cs, s => by
    show (VbfuamNeutral.step s d).2 :: played VbfuamNeutral.step (VbfuamNeutral.step s d).1 (cs ++ [c]) = _
    rw [played_snoc c cs]
    rfl
theorem told_snoc (l : List (List Int)) (a : List Int) : told (l ++ [a]) = told l ++ ((a.length : Int) :: a) := by
  unfold told
  rw [List.flatMap_append]
  congr 1
  exact List.append_nil _
theorem step_of {s : State} {c : Call1} {cl : Vbfuam.Call} (h : VbfuamNeutral.callOf c = some cl) : VbfuamNeutral.step s c = Vbfuam.step s cl := by
  unfold VbfuamNeutral.step
  rw [h]
theorem no_len (s : State) (n : Nat) : (Vbfuam.no s n).2.length ≤ 61 := by
  show 1 ≤ 61
  omega
theorem onDay_len {s : State} {d : Int} {f : Nat → Day → State × Vbfuam.Ans} (h : ∀ n x, (f n x).2.length ≤ 61) : (Vbfuam.onDay s d f).2.length ≤ 61 := by
  unfold Vbfuam.onDay
  split
  · exact no_len s 1
  · split
    · exact no_len s 4
    · exact h _ _
theorem step_len {s : State} (g : Good s) (cl : Vbfuam.Call) : (Vbfuam.step s cl).2.length ≤ 61 := by
  cases cl with
  | begin c r l q u =>
    show (Vbfuam.doBegin s c r l q u).2.length ≤ 61
    unfold Vbfuam.doBegin
    split
    · exact no_len s 1
    · split
      · exact no_len s 2
      · show 1 ≤ 61
        omega
  | quote i p =>
    show (if Vbfuam.isThing i = false ∨ Vbfuam.isQuote p = false then Vbfuam.no s 1 else _).2.length ≤ 61
    split
    · exact no_len s 1
    · show 1 ≤ 61
      omega
  | order h k a =>
    show (if Vbfuam.inside h 1 10 = false ∨ Vbfuam.inside k 0 1 = false ∨ Vbfuam.inside a 1 1000000000000 = false then Vbfuam.no s 1 else _).2.length ≤ 61
    split
    · exact no_len s 1
    · split
      · exact no_len s 8
      · split
        · exact no_len s 7
        · show 1 ≤ 61
          omega
  | close =>
    show (Vbfuam.doClose s).2.length ≤ 61
    unfold Vbfuam.doClose
    split
    · exact no_len s 8
    · dsimp only
      split
      · exact no_len s 9
      · show 4 ≤ 61
        omega
  | fix d i p =>
    show (if Vbfuam.isThing i = false ∨ Vbfuam.isQuote p = false then Vbfuam.no s 1 else _).2.length ≤ 61
    split
    · exact no_len s 1
    · refine onDay_len fun n x => ?_
      dsimp only
      split
      · exact no_len s 8
      · show 1 ≤ 61
        omega
  | putright =>
    show 3 ≤ 61
    omega
  | day d => exact onDay_len fun n x => by show 5 ≤ 61; omega
  | right d =>
    refine onDay_len fun n x => ?_
    show (match (Vbfuam.rights s)[n - 1]? with
      | none => Vbfuam.no s 4
      | some r => Vbfuam.yes s [(if r.wrong = true then 1 else 0), r.value, r.units, (r.fee : Int)]).2.length ≤ 61
    cases (Vbfuam.rights s)[n - 1]? with
    | none => exact no_len s 4
    | some r => show 4 ≤ 61; omega
  | outcome d k =>
    show (if Vbfuam.inside k 1 10 = false then Vbfuam.no s 1 else _).2.length ≤ 61
    split
    · exact no_len s 1
    · refine onDay_len fun n x => ?_
      show (match x.deals[k.toNat - 1]?, (Vbfuam.rights s)[n - 1]? with
        | some e, some r => Vbfuam.yes s ([(e.holder : Int)] ++ Vbfuam.flat ((x.first.drop (k.toNat - 1)).take 1 ++ ((x.outs.drop (k.toNat - 1)).take 1 ++ (r.outs.drop (k.toNat - 1)).take 1)))
        | _, _ => Vbfuam.no s 4).2.length ≤ 61
      cases x.deals[k.toNat - 1]? with
      | none => exact no_len s 4
      | some e =>
        cases (Vbfuam.rights s)[n - 1]? with
        | none => exact no_len s 4
        | some r =>
          show ([(e.holder : Int)] ++ Vbfuam.flat ((x.first.drop (k.toNat - 1)).take 1 ++ ((x.outs.drop (k.toNat - 1)).take 1 ++ (r.outs.drop (k.toNat - 1)).take 1))).length ≤ 61
          have key : ∀ l : List Out, (Vbfuam.flat l).length = 2 * l.length := by
            intro l
            induction l with
            | nil => rfl
            | cons a l ih =>
              show ([a.money, a.units] ++ Vbfuam.flat l).length = 2 * (l.length + 1)
              rw [List.length_append, ih]
              show 2 + _ = _
              omega
          rw [List.length_append, key, List.length_append, List.length_append, List.length_take, List.length_take, List.length_take]
          show 1 + _ ≤ 61
          omega
  | holder h =>
    show (if Vbfuam.inside h 1 10 = false then Vbfuam.no s 1 else _).2.length ≤ 61
    split
    · exact no_len s 1
    · show 5 ≤ 61
      omega
  | book =>
    show ([0, (Vbfuam.standing s).cash] ++ (Vbfuam.standing s).units).length ≤ 61
    rw [List.length_append, g.standing.len]
    show 2 + 10 ≤ 61
    omega
  | rightbook =>
    show ([0, (Vbfuam.rightBook s).cash] ++ (Vbfuam.rightBook s).units).length ≤ 61
    have h := (g.bookTo _ (Nat.le_refl _)).len
    rw [← rightBook_eq] at h
    rw [List.length_append, h]
    show 2 + 10 ≤ 61
    omega
  | owed =>
    show (0 :: Vbfuam.holders.map (Vbfuam.owedBy s)).length ≤ 61
    rw [List.length_cons, List.length_map]
    show 10 + 1 ≤ 61
    omega
  | wrongs =>
    have few := g.days
    show (((List.range s.days.length).filter fun i => ((Vbfuam.rights s)[i]?).any fun r => r.wrong).map fun i => ((i + 1 : Nat) : Int)).length + 1 ≤ 61
    rw [List.length_map]
    have h := List.length_filter_le (fun i => ((Vbfuam.rights s)[i]?).any fun r => r.wrong) (List.range s.days.length)
    rw [List.length_range] at h
    omega
  | counts =>
    show 3 ≤ 61
    omega
theorem mid_take {α : Type} (pre mid suf : List α) : ((pre ++ (mid ++ suf)).drop pre.length).take mid.length = mid := by
  rw [List.drop_left, List.take_left]
theorem mid_len {α : Type} (pre mid suf : List α) : pre.length + mid.length ≤ (pre ++ (mid ++ suf)).length := by
  rw [List.length_append, List.length_append]
  omega
theorem mid_get {α : Type} (pre : List α) (z : α) (suf : List α) : (pre ++ z :: suf)[pre.length]? = some z := by
  rw [List.getElem?_append_right (Nat.le_refl _), Nat.sub_self]
  rfl
end My
set_option Elab.async false
set_option linter.all false
set_option maxRecDepth 100000
set_option maxHeartbeats 2000000
namespace My
open PySem PySem.Spec PyProof.Rows L2
def TupK (K : PySem.W.Frag) (a : Addr) (its : List Value) : Prop := ∃ (o : Obj) (n : Nat), K.lookup a = some o ∧ o.cls = .type "tuple" ∧ o.data = .seq its.toArray n
def callTab : List (Str × Nat × Nat) := [("answer_begin", 3, 2), ("answer_quote", 2, 0), ("answer_order", 3, 0), ("answer_close", 0, 0), ("answer_fix", 3, 0), ("answer_putright", 0, 0), ("answer_day", 1, 0), ("answer_right", 1, 0), ("answer_outcome", 2, 0), ("answer_holder", 1, 0), ("answer_book", 0, 0), ("answer_rightbook", 0, 0), ("answer_owed", 0, 0), ("answer_wrongs", 0, 0), ("answer_counts", 0, 0)]
def TabAt (K : PySem.W.Frag) (mg : Str → Option Value) : Prop := ∃ (C : Addr) (ts : List Addr), mg "CALLS" = some (.ref C) ∧ TupK K C (ts.map Value.ref) ∧ P2 (fun t (x : Str × Nat × Nat) => ∃ f k1 k2, TupK K t [.ref f, .int ((x.2.1 : Nat) : Int) k1, .int ((x.2.2 : Nat) : Int) k2] ∧ mg x.1 = some (.ref f)) ts callTab
theorem vals_refs : ∀ ts : List Addr, Vals (ts.map V.ref) (ts.map Value.ref)
  | [] => .nil
  | _ :: ts => .cons rfl (vals_refs ts)
theorem TupK.sq {K : PySem.W.Frag} {H : Hp} {a : Addr} {its : List Value} {xs : List V} (h : TupK K a its) (hl : its.length ≤ 100) (r : Vals xs its) : SqT K H a xs := by
  obtain ⟨o, n, h1, h2, h3⟩ := h
  exact .inr ⟨o, its.toArray, n, h1, h2, h3, by rw [List.size_toArray]; exact Nat.le_trans hl (by decide), by simpa using r⟩
end My
set_option Elab.async false
set_option linter.all false
set_option maxRecDepth 100000
set_option maxHeartbeats 2000000
namespace My
open PySem PySem.Spec PyProof.Rows L2
open Vbfuam (State Deal Out Day Fix Book Right)
open PyFlat (put put1 putRows putRow okCall told played)
theorem FundIs.keepN {A : Ad} {N : List Addr} {G H G' H' : Hp} {p t q d y c b : Addr} {ys : List Addr} {s : State} (F : FundIs A G H p t q d y c b ys s) (e : Ex N G H G' H') (hn : ∀ a ∈ own p q d y c ys, a ∉ N) : FundIs A G' H' p t q d y c b ys s where
  ins := let ⟨dx, h⟩ := F.ins; ⟨dx, e.keep h (hn p (by simp [own]))⟩
  terms := F.terms.mono e.gg
  quotes := e.keep F.quotes (hn q (by simp [own]))
  deals := let ⟨as, h1, h2⟩ := F.deals; ⟨as, e.keep h1 (hn d (by simp [own])), h2.imp fun _ _ z => z.mono e.gg⟩
  list := e.keep F.list (hn y (by simp [own]))
  days := F.days.impMem fun a _ ha z => z.mono e.gg (fun o q => e.keep q (hn a (by simp [own, ha])))
  fixes := let ⟨kvs, h1, h2⟩ := F.fixes; ⟨kvs, e.keep h1 (hn c (by simp [own])), h2⟩
  net := e.gg _ _ F.net
  gp := let ⟨_, h⟩ := F.ins; e.apart h F.gp (hn p (by simp [own]))
  gq := e.apart F.quotes F.gq (hn q (by simp [own]))
  gd := let ⟨as, h1, _⟩ := F.deals; e.apart h1 F.gd (hn d (by simp [own]))
  gy := e.apart F.list F.gy (hn y (by simp [own]))
  gc := let ⟨kvs, h1, _⟩ := F.fixes; e.apart h1 F.gc (hn c (by simp [own]))
  gs := fun a ha => let ⟨_, _, _, _, _, _, _, ⟨_, h⟩, _⟩ := F.days.mem ha; e.apart h (F.gs a ha) (hn a (by simp [own, ha]))
  nd := F.nd
  qd := F.qd
  qy := F.qy
  dy := F.dy
  pys := F.pys
theorem FAt.keepN {A : Ad} {N : List Addr} {G H G' H' : Hp} {M : List Addr} {p : Addr} {s : State} (F : FAt A G H M p s) (e : Ex N G H G' H') (hn : ∀ a ∈ N, a ∉ M) : FAt A G' H' M p s :=
  let ⟨t, q, d, y, c, b, ys, F, h⟩ := F; ⟨t, q, d, y, c, b, ys, F.keepN e (fun a ha hN => hn a hN (h a ha)), h⟩
theorem free_upd {H : Hp} {r q : Addr} {o : HO} (h : upd H r o q = Option.none) : H q = Option.none ∧ q ≠ r := by
  by_cases e : q = r
  · rw [e, upd_same] at h
    cases h
  · rw [upd_ne e] at h
    exact ⟨h, e⟩
theorem asked_calls {ns : List Int} (h : PyVbfuam.answers_asked ns = true) : ∃ cs : List Call1, ns = put cs ∧ (∀ c ∈ cs, okCall PyVbfuam.shape c) ∧ cs.length ≤ 400 ∧ (∀ c ∈ cs, VbfuamNeutral.asked1 c = true) ∧ PyVbfuam.answers ns = told (played VbfuamNeutral.step VbfuamNeutral.start cs) := by
  unfold PyVbfuam.answers_asked at h
  unfold PyVbfuam.answers
  cases e : PyVbfuam.calls ns with
  | none =>
    rw [e] at h
    cases h
  | some cs =>
    rw [e] at h
    unfold PyVbfuam.calls at e
    cases e2 : PyFlat.calls PyVbfuam.shape ns.length ns with
    | none =>
      rw [e2] at e
      cases e
    | some ds =>
      rw [e2] at e
      obtain ⟨hp, hok⟩ := PyFlat.put_calls _ _ _ e2
      have e3 : ds.map PyVbfuam.whole = cs := Option.some.inj e
      rw [wholes_id hok] at e3
      subst e3
      have h2 : (PyFlat.atMost 400 ds && VbfuamNeutral.asked ds) = true := h
      rw [Bool.and_eq_true] at h2
      have h3 : (ds.all VbfuamNeutral.asked1 && (decide (1 ≤ ds.length) && decide (ds.length ≤ 400))) = true := h2.2
      rw [Bool.and_eq_true] at h3
      exact ⟨ds, hp, hok, of_decide_eq_true h2.1, fun c hc => List.all_eq_true.mp h3.1 c hc, rfl⟩
section
variable {P : Program} {w : World} {K : PySem.W.Frag} {mg : Str → Option Value} {base : Heap} {A : Ad}
theorem _root_.L2.CalF.mono {j k : Nat} {x : Str} {ps : List Str} {sp : Sp} (F : CalF P w K mg base j x ps sp) (h : j ≤ k) : CalF P w K mg base k x ps sp := let ⟨f, fd, F1, h1, h2, h3⟩ := F.ex; ⟨f, fd, F1.mono h, h1, h2, h3⟩
theorem answer_for (T : Txt K mg A) {c : Call1} (h : okCall PyVbfuam.shape c) (ha : VbfuamNeutral.asked1 c = true) :
    ∃ (j : Nat) (xs : List Int) (rs : List (List Int)) (nm : Str) (cl : Vbfuam.Call) (W : Hp → Hp → Addr → Vbfuam.Call → Prop), c = ((j : Int) :: xs) :: rs ∧ xs.length ≤ 3 ∧ rs.length ≤ 2 ∧ callTab[j]? = some (nm, xs.length, rs.length) ∧ VbfuamNeutral.callOf c = some cl ∧
      CalF P w K mg base 9 nm ["fund", "told"] (spAns A W) ∧ ∀ (G H : Hp) (tl : Addr) (as : List Addr), H tl = some (.lst (xs.map V.int ++ as.map V.ref)) → P2 (fun b row => Ints G b row) as rs → W G H tl cl := by
  rcases call_cases h with ⟨x, y, z, q, u, rfl⟩ | ⟨x, y, rfl⟩ | ⟨x, y, z, rfl⟩ | rfl | ⟨x, y, z, rfl⟩ | rfl | ⟨x, rfl⟩ | ⟨x, rfl⟩ | ⟨x, y, rfl⟩ | ⟨x, rfl⟩ | rfl | rfl | rfl | rfl | rfl
  · refine ⟨0, [x, y, z], [q, u], _, _, wBegin, rfl, (by show 3 ≤ 3; omega), (by show 2 ≤ 2; omega), rfl, rfl, (ok_answer_begin T).mono (by decide), fun G H tl as ht hp => ?_⟩
    cases hp with
    | cons h1 hp =>
      cases hp with
      | cons h2 hp =>
        cases hp
        have h3 : (VbfuamNeutral.whole64 x && VbfuamNeutral.whole64 y && VbfuamNeutral.whole64 z && (q.all (fun (z : Int) => VbfuamNeutral.whole64 z) && decide (q.length ≤ 400)) && (u.all (fun (z : Int) => VbfuamNeutral.whole64 z) && decide (u.length ≤ 400))) = true := ha
        have h4 := Bool.and_eq_true_iff.mp h3
        exact ⟨x, y, z, q, u, _, _, rfl, ht, h1, h2, of_decide_eq_true (Bool.and_eq_true_iff.mp (Bool.and_eq_true_iff.mp h4.1).2).2, of_decide_eq_true (Bool.and_eq_true_iff.mp h4.2).2⟩
  · refine ⟨1, [x, y], [], _, _, wQuote, rfl, (by show 2 ≤ 3; omega), (by show 0 ≤ 2; omega), rfl, rfl, (ok_answer_quote T).mono (by decide), fun G H tl as ht hp => ?_⟩
    cases hp
    exact ⟨x, y, rfl, ht⟩
  · refine ⟨2, [x, y, z], [], _, _, wOrder, rfl, (by show 3 ≤ 3; omega), (by show 0 ≤ 2; omega), rfl, rfl, (ok_answer_order T).mono (by decide), fun G H tl as ht hp => ?_⟩
    cases hp
    exact ⟨x, y, z, rfl, ht⟩
  · exact ⟨3, [], [], _, _, wClose, rfl, (by show 0 ≤ 3; omega), (by show 0 ≤ 2; omega), rfl, rfl, (ok_answer_close T).mono (by decide), fun G H tl as ht hp => rfl⟩
  · refine ⟨4, [x, y, z], [], _, _, wFix, rfl, (by show 3 ≤ 3; omega), (by show 0 ≤ 2; omega), rfl, rfl, (ok_answer_fix T).mono (by decide), fun G H tl as ht hp => ?_⟩
    cases hp
    exact ⟨x, y, z, rfl, ht⟩
  · exact ⟨5, [], [], _, _, wPut, rfl, (by show 0 ≤ 3; omega), (by show 0 ≤ 2; omega), rfl, rfl, (ok_answer_putright T).mono (by decide), fun G H tl as ht hp => rfl⟩
  · refine ⟨6, [x], [], _, _, wDay, rfl, (by show 1 ≤ 3; omega), (by show 0 ≤ 2; omega), rfl, rfl, (ok_answer_day T).mono (by decide), fun G H tl as ht hp => ?_⟩
    cases hp
    exact ⟨x, rfl, ht⟩
  · refine ⟨7, [x], [], _, _, wRight, rfl, (by show 1 ≤ 3; omega), (by show 0 ≤ 2; omega), rfl, rfl, (ok_answer_right T).mono (by decide), fun G H tl as ht hp => ?_⟩
    cases hp
    exact ⟨x, rfl, ht⟩
  · refine ⟨8, [x, y], [], _, _, wOutcome, rfl, (by show 2 ≤ 3; omega), (by show 0 ≤ 2; omega), rfl, rfl, (ok_answer_outcome T).mono (by decide), fun G H tl as ht hp => ?_⟩
    cases hp
    exact ⟨x, y, rfl, ht⟩
  · refine ⟨9, [x], [], _, _, wHolder, rfl, (by show 1 ≤ 3; omega), (by show 0 ≤ 2; omega), rfl, rfl, (ok_answer_holder T).mono (by decide), fun G H tl as ht hp => ?_⟩
    cases hp
    exact ⟨x, rfl, ht⟩
  · exact ⟨10, [], [], _, _, wBook, rfl, (by show 0 ≤ 3; omega), (by show 0 ≤ 2; omega), rfl, rfl, (ok_answer_book T).mono (by decide), fun G H tl as ht hp => rfl⟩
  · exact ⟨11, [], [], _, _, wRightBook, rfl, (by show 0 ≤ 3; omega), (by show 0 ≤ 2; omega), rfl, rfl, (ok_answer_rightbook T).mono (by decide), fun G H tl as ht hp => rfl⟩
  · exact ⟨12, [], [], _, _, wOwed, rfl, (by show 0 ≤ 3; omega), (by show 0 ≤ 2; omega), rfl, rfl, (ok_answer_owed T).mono (by decide), fun G H tl as ht hp => rfl⟩
  · exact ⟨13, [], [], _, _, wWrongs, rfl, (by show 0 ≤ 3; omega), (by show 0 ≤ 2; omega), rfl, rfl, (ok_answer_wrongs T).mono (by decide), fun G H tl as ht hp => rfl⟩
  · exact ⟨14, [], [], _, _, wCounts, rfl, (by show 0 ≤ 3; omega), (by show 0 ≤ 2; omega), rfl, rfl, (ok_answer_counts T).mono (by decide), fun G H tl as ht hp => rfl⟩
end
end My
set_option Elab.async false
set_option linter.all false
set_option maxRecDepth 100000
set_option maxHeartbeats 3000000
namespace My
open PySem PySem.Spec PyProof.Rows L2
open Vbfuam (State Deal Out Day Fix Book Right)
open PyFlat (put put1 putRows putRow okCall told played)
def spAll (K : PySem.W.Frag) : Sp := fun vs H Q _ => ∃ a, ∃ ns : List Int, vs = [.ref a] ∧ SqL K H a (ns.map V.int) ∧ PyVbfuam.answers_asked ns = true ∧ ∀ H' p, Ints H' p (PyVbfuam.answers ns) → Q (.ref p) H'
def given (don : List Call1) : List Int := told (played VbfuamNeutral.step VbfuamNeutral.start don)
theorem given_snoc (don : List Call1) (c : Call1) : given (don ++ [c]) = given don ++ (((VbfuamNeutral.step (after Vbfuam.start don) c).2.length : Int) :: (VbfuamNeutral.step (after Vbfuam.start don) c).2) := by
  unfold given
  rw [played_snoc, told_snoc]
  rfl
structure Mid (K : PySem.W.Frag) (A : Ad) (H0 : Hp) (cs : List Call1) (ns : List Int) (a p r dr gv : Addr) (don rest : List Call1) (G H : Hp) (M : List Addr) (pre : List Int) : Prop where
  all : cs = don ++ rest
  flat : ns = pre ++ put rest
  ex : Ex [] H0 H0 G H
  rd : Rdr K A G H r dr a pre.length ns
  fund : FAt A G H M p (after Vbfuam.start don)
  good : Good (after Vbfuam.start don)
  out : Ints H gv (given don)
  few : (given don).length ≤ 62 * don.length
  gg : G gv = Option.none
  rM : r ∉ M
  gM : gv ∉ M
  new : ∀ m ∈ M, H0 m = Option.none
  r0 : H0 r = Option.none
  g0 : H0 gv = Option.none
def LoopW (K : PySem.W.Frag) (A : Ad) (H0 : Hp) (cs : List Call1) (ns : List Int) (a p r dr gv : Addr) (m : Nat) (σ : L2.St) (H : Hp) : Prop :=
  ∃ v4 v5 v6 v7 v8 don rest G M pre, m = rest.length ∧ σ = [some (.ref a), some (.ref p), some (.ref r), some (.ref gv), v4, v5, v6, v7, v8] ∧ Mid K A H0 cs ns a p r dr gv don rest G H M pre
section
variable {P : Program} {w : World} {K : PySem.W.Frag} {mg : Str → Option Value} {base : Heap} {A : Ad}
theorem ok_answers_fn (T : Txt K mg A) (TB : TabAt K mg) {f0 : Addr} {fd0 : FuncData} (F : Fun K "answers" "answers" s_answers f0 fd0) : FnOk P w K mg base CX0 10 f0 fd0 ["calls"] (spAll K) := by
  refine F.ok (k := 9) sc_answers (fun vs H Q E h => ?_) (fun cdv A1 outer s0 H vs Q E hr h => ?_)
  · obtain ⟨a, ns, rfl, _⟩ := h
    rfl
  · obtain ⟨a, ns, rfl, hs, hask, k⟩ := h
    obtain ⟨C, ts, hC, hT, hrows⟩ := TB
    obtain ⟨cs, hns, hok, hlen, hall, hans⟩ := asked_calls hask
    refine ⟨_, (pss_cons (ps_set (i := 1) sc_answers.nd rfl (Or.inl rfl) (pe_fn0 (ok_new_fund T) (hr.mono (by decide)) rfl))
      (pss_cons (ps_set (i := 2) sc_answers.nd rfl (Or.inl rfl) (pe_rec (ok_CallReader T) (hr.mono (by decide)) rfl (pa_cons (pv 0) pa_nil)))
      (pss_cons (ps_set (i := 3) sc_answers.nd rfl (Or.inl rfl) (pe_lst pa_nil))
      (pss_cons (ps_while PassesOwn.never (pt_not (pt_val (pe_md0 (ok_CallReader_at_end T) (hr.mono (by decide)) (pv 2))))
      (pss_cons (ps_set (i := 4) sc_answers.nd rfl (Or.inl rfl) (pe_ix ix_tup (pe_glob (v := .ref C) rfl hC rfl) (pe_md0 (ok_CallReader_take_number T) (hr.mono (by decide)) (pv 2)) (fun _ _ => rfl)))
      (pss_cons (ps_set (i := 5) sc_answers.nd rfl (Or.inl rfl) (pe_md (ok_CallReader_take_several T) (hr.mono (by decide)) (pv 2) (pa_cons (pe_ix ix_tup (pv 4) pe_int (fun _ _ => rfl)) pa_nil)))
      (pss_cons (ps_for PassesOwn.never rfl (pi_range1 rfl T.b_range (pa_cons (pe_ix ix_tup (pv 4) pe_int (fun _ _ => rfl)) pa_nil)) (pg_name (i := 6) sc_answers.nd rfl (Or.inl rfl))
      (pss_one (ps_expr (pe_bm PySem.F.plainAttrs_list PySem.F.slot_list_append PySem.F.type_list_append mt_append (pv 5) (pa_cons (pe_md0 (ok_CallReader_take_row T) (hr.mono (by decide)) (pv 2)) pa_nil)))))
      (pss_cons (ps_set (i := 7) sc_answers.nd rfl (Or.inl rfl) (pe_ix ix_tup (pv 4) pe_int (fun _ _ => rfl)))
      (pss_cons (ps_set (i := 8) sc_answers.nd rfl (Or.inl rfl) (pe_callV (k := 9) (i := 7) rfl (Or.inl rfl) hr (pa_cons (pv 1) (pa_cons (pv 5) pa_nil))))
      (pss_cons (ps_expr (pe_bm PySem.F.plainAttrs_list PySem.F.slot_list_append PySem.F.type_list_append mt_append (pv 3) (pa_cons (pe_callB call_len_seq (by rfl) T.b_len PySem.boot_len (pa_cons (pv 8) pa_nil)) pa_nil)))
      (pss_one (ps_expr (pe_bm PySem.F.plainAttrs_list PySem.F.slot_list_extend PySem.F.type_list_extend mt_extend (pv 3) (pa_cons (pv 8) pa_nil)))))))))))
      (pss_one (ps_ret (pv 3))))))), ?_⟩
    refine ⟨H, rfl, Same.refl H, fun p t q d y c b G1 H1 e1 hp hq hd hy hc F1 => ?_⟩
    refine ⟨_, rfl, rfl, fun r dr hr1 hdr hrn => ?_⟩
    have e2 := Ex.madeM (o := .ins A.cRead dr (fRd a 0)) e1.gh hr1 hdr hrn
    have hr2 : (upd (upd H1 dr (.own r)) r (.ins A.cRead dr (fRd a 0))) r = _ := upd_same
    refine ⟨(by show 0 ≤ sizeLine; decide), fun gv hgv => ?_⟩
    have e3 := Ex.new (o := .lst []) e2.gh hgv
    have e13 := e1.trans0 (e2.trans0 e3)
    refine ⟨LoopW K A H cs ns a p r dr gv, ⟨cs.length, Option.none, Option.none, Option.none, Option.none, Option.none, [], cs, G1, own p q d y c [], [], rfl, rfl, ?_⟩, ?_⟩
    · refine ⟨rfl, hns, e13, ⟨e3.gh, e1.gh.free hr1, e3.keep0 hr2, e13.gg.seq hs⟩, ⟨t, q, d, y, c, b, [], (F1.keep0 e2).keep0 e3, fun a h => h⟩, good_start, upd_same, Nat.zero_le _, e2.gh.free hgv, ?_, ?_, ?_, e1.freeH hr1, e1.freeH (e2.freeH hgv)⟩
      · intro hm
        obtain ⟨dp, hp1⟩ := F1.ins
        obtain ⟨as, hd1, _⟩ := F1.deals
        obtain ⟨kvs, hc1, _⟩ := F1.fixes
        simp only [own, List.mem_cons, List.not_mem_nil, or_false] at hm
        rcases hm with h | h | h | h | h
        · rw [h, hp1] at hr1; cases hr1
        · rw [h, F1.quotes] at hr1; cases hr1
        · rw [h, hd1] at hr1; cases hr1
        · rw [h, F1.list] at hr1; cases hr1
        · rw [h, hc1] at hr1; cases hr1
      · intro hm
        have hgv1 := e2.freeH hgv
        obtain ⟨dp, hp1⟩ := F1.ins
        obtain ⟨as, hd1, _⟩ := F1.deals
        obtain ⟨kvs, hc1, _⟩ := F1.fixes
        simp only [own, List.mem_cons, List.not_mem_nil, or_false] at hm
        rcases hm with h | h | h | h | h
        · rw [h, hp1] at hgv1; cases hgv1
        · rw [h, F1.quotes] at hgv1; cases hgv1
        · rw [h, hd1] at hgv1; cases hgv1
        · rw [h, F1.list] at hgv1; cases hgv1
        · rw [h, hc1] at hgv1; cases hgv1
      · intro m hm
        simp only [own, List.mem_cons, List.not_mem_nil, or_false] at hm
        rcases hm with h | h | h | h | h
        · rw [h]; exact hp
        · rw [h]; exact hq
        · rw [h]; exact hd
        · rw [h]; exact hy
        · rw [h]; exact hc
    clear e13 e3 hgv hr2 e2 hrn hdr hr1 F1 hc hy hd hq hp e1 H1 G1 b c y d q t
    rintro m σ H' ⟨v4, v5, v6, v7, v8, don, rest, G, M, pre, rfl, rfl, L⟩
    have R := L.rd
    refine ⟨_, rfl, r, dr, _, rfl, R.at_, rfl, r, dr, a, pre.length, ns, G, rfl, R, _, rfl, ?_⟩
    cases rest with
    | nil =>
      have hn : ns.length ≤ pre.length := by
        have e := L.flat
        rw [show put ([] : List Call1) = [] from rfl, List.append_nil] at e
        rw [e]
        exact Nat.le_refl _
      rw [decide_eq_true hn]
      refine iteF ⟨_, rfl, k H' gv ?_⟩
      have e := L.all
      rw [List.append_nil] at e
      rw [hans, e]
      exact L.out
    | cons c rest =>
      have hcm : c ∈ cs := by
        rw [L.all]
        simp
      obtain ⟨j, xs, rs, nm, cl, W, rfl, hx3, hr2, htab, hcl, CF, hW⟩ := answer_for (P := P) (w := w) (base := base) T (hok c hcm) (hall c hcm)
      obtain ⟨t, ht, fa, k1, k2, hrow, hmg⟩ := hrows.left htab
      obtain ⟨f, fd, FO, hm, hk, hb⟩ := CF.ex
      have ef : f = fa := by
        have z := hm.symm.trans hmg
        exact Value.ref.inj (Option.some.inj z)
      subst ef
      have hflat : ns = pre ++ ((j : Int) :: (xs ++ (putRows rs ++ put rest))) := by
        rw [L.flat]
        show pre ++ ((((j : Int) :: xs) ++ putRows rs) ++ put rest) = _
        rw [List.append_assoc]
        rfl
      have hne : ¬ ns.length ≤ pre.length := by
        rw [hflat, List.length_append, List.length_cons]
        omega
      rw [decide_eq_false hne]
      have hz : ns[pre.length]? = some ((j : Nat) : Int) := by
        rw [hflat]
        exact mid_get _ _ _
      have hp1 : (pre ++ [(j : Int)]).length = pre.length + 1 := by
        rw [List.length_append]
        rfl
      have hflat1 : ns = (pre ++ [(j : Int)]) ++ (xs ++ (putRows rs ++ put rest)) := by
        rw [hflat, List.append_assoc]
        rfl
      have hxs : (ns.drop (pre.length + 1)).take xs.length = xs := by
        rw [hflat1, ← hp1]
        exact mid_take _ _ _
      have hl1 : pre.length + 1 + xs.length ≤ ns.length := by
        rw [hflat1, ← hp1]
        exact mid_len _ _ _
      have htl20 : (ts.map Value.ref).length ≤ 100 := by
        have z := hrows.len
        rw [List.length_map, z]
        decide
      have row3 : ∀ Hx : Hp, SqT K Hx t [.ref f, .int ((xs.length : Nat) : Int), .int ((rs.length : Nat) : Int)] := fun Hx => TupK.sq hrow (by show 3 ≤ 100; omega) (.cons rfl (.cons ⟨_, rfl⟩ (.cons ⟨_, rfl⟩ .nil)))
      refine iteT ⟨fun σ' H'' => ∃ m', m' < ((((j : Int) :: xs) :: rs) :: rest).length ∧ LoopW K A H cs ns a p r dr gv m' σ' H'', fun σ' H'' z => z, ?_⟩
      refine ⟨_, rfl, r, dr, _, rfl, R.at_, rfl, r, dr, a, pre.length, ns, _, G, rfl, R, hz, C, _, _, _, rfl, rfl, TupK.sq hT htl20 (vals_refs ts), atI_nat (get_refs ht), ?_⟩
      have R1 := R.put (m := pre.length + 1)
      have x1 := Ex.put (o := .ins A.cRead dr (fRd a (pre.length + 1))) R.sg R.gr (some_ne R.at_)
      refine ⟨_, rfl, r, dr, _, rfl, R1.at_, rfl, _, rfl, t, _, _, _, rfl, rfl, row3 _, at1, r, dr, a, pre.length + 1, ns, xs.length, G, rfl, R1, hl1, fun tl htl => ?_⟩
      rw [hxs]
      obtain ⟨htl0, ntr⟩ := free_upd htl
      have x2 := Ex.new (o := .lst (xs.map V.int)) x1.gh htl
      have hr2' : (upd (upd H' r (.ins A.cRead dr (fRd a (pre.length + 1)))) tl (.lst (xs.map V.int))) r = some (.ins A.cRead dr (fRd a (pre.length + 1))) := x2.keep0 upd_same
      have x3 := Ex.put (o := .ins A.cRead dr (fRd a (pre.length + 1 + xs.length))) x2.gh R.gr (some_ne hr2')
      have X3 : Ex [r] G H' G _ := ((x1.trans x2).trans x3).weak (N := [r]) (by simp)
      have htl3 : (upd (upd (upd H' r (.ins A.cRead dr (fRd a (pre.length + 1)))) tl (.lst (xs.map V.int))) r (.ins A.cRead dr (fRd a (pre.length + 1 + xs.length)))) tl = some (.lst (xs.map V.int)) := by
        rw [upd_ne ntr, upd_same]
      have hp2 : ((pre ++ [(j : Int)]) ++ xs).length = pre.length + 1 + xs.length := by
        rw [List.length_append, hp1]
      have hflat2 : ns = ((pre ++ [(j : Int)]) ++ xs) ++ (putRows (rs.drop 0) ++ put rest) := by
        rw [hflat1, List.append_assoc (pre ++ [(j : Int)])]
        rfl
      have hgl0 := L.gg
      refine ⟨_, rfl, t, _, _, _, rfl, rfl, row3 _, at2, _, rfl, by omega, by omega,
        for_range (lo := 0) (n := rs.length) (fun i σ H3 => ∃ v6 G3 pre3 as, σ = [some (.ref a), some (.ref p), some (.ref r), some (.ref gv), some (.ref t), some (.ref tl), v6, v7, v8] ∧ ns = pre3 ++ (putRows (rs.drop i) ++ put rest) ∧ Ex [r] G H' G3 H3 ∧
          Rdr K A G3 H3 r dr a pre3.length ns ∧ H3 tl = some (.lst (xs.map V.int ++ as.map V.ref)) ∧ G3 tl = Option.none ∧ P2 (fun b row => Ints G3 b row) as (rs.take i))
        ⟨v6, G, (pre ++ [(j : Int)]) ++ xs, [], rfl, hflat2, X3, ⟨x3.gh, R.gr, (by rw [hp2]; exact upd_same), R.list⟩, (by rw [List.map_nil, List.append_nil]; exact htl3), R.sg.free htl0, .nil⟩ ?_ ?_⟩
      · rintro i σ H3 hi ⟨v6, G3, pre3, as, rfl, hf3, e3, R3, ht3, g3, pa⟩
        have hd : rs.drop i = rs[i] :: rs.drop (i + 1) := List.drop_eq_getElem_cons hi
        have hri : rs[i]? = some rs[i] := List.getElem?_eq_getElem hi
        generalize rs[i] = row at hd hri
        have hf4 : ns = pre3 ++ ((row.length : Int) :: (row ++ (putRows (rs.drop (i + 1)) ++ put rest))) := by
          rw [hf3, hd]
          show pre3 ++ ((((row.length : Int) :: row) ++ putRows (rs.drop (i + 1))) ++ put rest) = _
          rw [List.append_assoc]
          rfl
        have hz3 : ns[pre3.length]? = some ((row.length : Nat) : Int) := by
          rw [hf4]
          exact mid_get _ _ _
        have hq1 : (pre3 ++ [(row.length : Int)]).length = pre3.length + 1 := by
          rw [List.length_append]
          rfl
        have hf5 : ns = (pre3 ++ [(row.length : Int)]) ++ (row ++ (putRows (rs.drop (i + 1)) ++ put rest)) := by
          rw [hf4, List.append_assoc]
          rfl
        have hrow5 : (ns.drop (pre3.length + 1)).take row.length = row := by
          rw [hf5, ← hq1]
          exact mid_take _ _ _
        have hl5 : pre3.length + 1 + row.length ≤ ns.length := by
          rw [hf5, ← hq1]
          exact mid_len _ _ _
        refine ⟨_, rfl, .inl ⟨rfl, _, SqL.of ht3⟩, _, rfl, r, dr, _, rfl, R3.at_, rfl, r, dr, a, pre3.length, ns, row.length, G3, rfl, R3, hz3, hl5, fun q hq => ?_⟩
        rw [hrow5]
        have ntq : tl ≠ q := ne_of_none ht3 hq
        have nrq : r ≠ q := ne_of_none R3.at_ hq
        have y1 := Ex.newG (o := .lst (row.map V.int)) R3.sg hq
        have hr4 := y1.keep0 R3.at_
        have gr4 : (upd G3 q (.lst (row.map V.int))) r = Option.none := by
          rw [upd_ne nrq]
          exact R3.gr
        have gt4 : (upd G3 q (.lst (row.map V.int))) tl = Option.none := by
          rw [upd_ne ntq]
          exact g3
        have y2 := Ex.put (o := .ins A.cRead dr (fRd a (pre3.length + 1 + row.length))) y1.gh gr4 (some_ne hr4)
        have ht5 := y2.keep (y1.keep0 ht3) (show tl ∉ [r] from by simp; exact ntr)
        have y3 := Ex.put (o := .lst ((xs.map V.int ++ as.map V.ref) ++ [.ref q])) y2.gh gt4 (some_ne ht5)
        have lpa := pa.len
        rw [List.length_take] at lpa
        refine ⟨tl, _, _, rfl, rfl, ht5, ?_, ?_⟩
        · rw [List.length_append, List.length_map, List.length_map]
          exact Nat.lt_of_le_of_lt (show _ ≤ 5 by omega) (by decide)
        · refine ⟨_, _, (pre3 ++ [(row.length : Int)]) ++ row, as ++ [q], rfl, ?_, ?_, ⟨y3.gh, gr4, ?_, (y1.gg).seq R3.list⟩, ?_, gt4, ?_⟩
          · rw [List.append_assoc (pre3 ++ [(row.length : Int)])]
            exact hf5
          · exact (e3.trans (y1.trans (y2.trans y3))).drop (by simp [htl0])
          · rw [List.length_append, hq1]
            exact y3.keep upd_same (show r ∉ [tl] from by simp; exact ntr.symm)
          · rw [upd_same, List.map_append, List.append_assoc]
            rfl
          · rw [take_snoc hri]
            exact P2.snoc (R := fun b row' => Ints (upd G3 q (.lst (row.map V.int))) b row') (a := q) (b := row) upd_same (pa.imp fun b o z => y1.gg _ _ z)
      · rintro σ H3 ⟨v6, G3, pre3, as, rfl, hf3, e3, R3, ht3, g3, pa⟩
        rw [List.take_length] at pa
        rw [List.drop_length] at hf3
        have F3 := L.fund.keepN e3 (by intro z hz; rw [List.mem_singleton.mp hz]; exact L.rM)
        have hgr : gv ≠ r := ne_of L.out R.at_ (by intro z; cases z)
        have hg3 := e3.keep L.out (show gv ∉ [r] from by simp; exact hgr)
        have gg3 := e3.apart L.out L.gg (show gv ∉ [r] from by simp; exact hgr)
        have E3 : Ex [] H H G3 H3 := (L.ex.trans e3).drop (by simp [L.r0])
        refine ⟨_, rfl, t, _, _, _, rfl, rfl, row3 _, at0, ?_⟩
        refine ⟨f, fd, _, _, rfl, FO, hk, hb, _, rfl, _, rfl, p, tl, G3, M, after Vbfuam.start don, cl, rfl, R3.sg, F3, L.good, hW G3 H3 tl as ht3 pa, ?_⟩
        intro l G4 H4 M4 e4 hM4 hl hgl hans4 F4 g4
        have hlen4 := step_len L.good cl
        have hg4 := e4.keep hg3 L.gM
        have gg4 := e4.apart hg3 gg3 L.gM
        have hr4 := e4.keep R3.at_ L.rM
        have gr4 := e4.apart R3.at_ R3.gr L.rM
        have nlg : l ≠ gv := (ne_of_none hg3 hl).symm
        have dl : don.length + 1 ≤ 400 := by
          have z := hlen
          rw [L.all, List.length_append, List.length_cons] at z
          omega
        have fw := L.few
        refine ⟨_, rfl, .inl ⟨rfl, _, SqL.of hg4⟩, _, rfl, l, _, rfl, .inl (SqL.of hans4), gv, _, _, rfl, rfl, hg4, ?_, ?_⟩
        · rw [List.length_map]
          exact Nat.lt_of_le_of_lt (show _ ≤ 25000 by omega) (by decide)
        have z1 := Ex.put (o := .lst ((given don).map V.int ++ [.int ((((Vbfuam.step (after Vbfuam.start don) cl).2.map V.int).length : Nat) : Int)])) e4.gh gg4 (some_ne hg4)
        have hl5 := z1.keep hans4 (show l ∉ [gv] from by simp; exact nlg)
        refine ⟨_, rfl, .inl ⟨rfl, _, SqL.of upd_same⟩, _, rfl, gv, l, _, _, rfl, rfl, upd_same, hl5, ?_, ?_⟩
        · rw [List.length_append, List.length_map, List.length_map]
          exact Nat.le_trans (show _ + 1 + _ ≤ 26000 by omega) (by decide)
        have z2 := Ex.put (o := .lst (((given don).map V.int ++ [.int ((((Vbfuam.step (after Vbfuam.start don) cl).2.map V.int).length : Nat) : Int)]) ++ (Vbfuam.step (after Vbfuam.start don) cl).2.map V.int)) z1.gh gg4 (some_ne (show (upd H4 gv _) gv = some _ from upd_same))
        have hst := step_of (s := after Vbfuam.start don) hcl
        have hgs := given_snoc don (((j : Int) :: xs) :: rs)
        rw [hst] at hgs
        have Z : Ex [gv] G4 H4 G4 _ := (z1.trans z2).weak (N := [gv]) (by simp)
        have gM4 : gv ∉ M4 := fun hm => by
          rcases hM4 gv hm with z | z
          · exact L.gM z
          · rw [hg3] at z
            cases z
        have rM4 : r ∉ M4 := fun hm => by
          rcases hM4 r hm with z | z
          · exact L.rM z
          · rw [R3.at_] at z
            cases z
        refine ⟨rest.length, (by rw [List.length_cons]; omega), _, _, _, _, _, don ++ [((j : Int) :: xs) :: rs], rest, G4, M4, pre3, rfl, rfl, ?_⟩
        refine ⟨?_, ?_, ?_, ⟨Z.gh, gr4, Z.keep hr4 (show r ∉ [gv] from by simp; exact hgr.symm), e4.gg.seq R3.list⟩, ?_, ?_, ?_, ?_, gg4, rM4, gM4, ?_, L.r0, L.g0⟩
        · rw [L.all, List.append_assoc]
          rfl
        · exact hf3
        · refine ((E3.trans e4).trans Z).drop fun z hz => ?_
          rw [List.nil_append, List.mem_append, List.mem_singleton] at hz
          rcases hz with z1 | z1
          · exact .inr (L.new z z1)
          · rw [z1]
            exact .inr L.g0
        · rw [after_snoc, hst]
          exact F4.keepN Z (by intro z hz; rw [List.mem_singleton.mp hz]; exact gM4)
        · rw [after_snoc, hst]
          exact g4
        · show upd _ _ _ _ = _
          rw [upd_same, hgs, List.map_append, List.map_cons, List.length_map, List.append_assoc]
          rfl
        · rw [hgs, List.length_append, List.length_cons, List.length_append]
          show _ ≤ 62 * (don.length + 1)
          omega
        · intro z hz
          rcases hM4 z hz with h1 | h1
          · exact L.new z h1
          · exact E3.freeH h1
theorem fin_mk {fa : Addr} (hmg : mg "answers" = some (.ref fa)) (h : ∃ A : Ad, Txt K mg A ∧ TabAt K mg) :
    ∃ fd : FuncData, (∀ (s : Shared) (us : List Value), us.length = (["calls"] : List Str).length → BindsTo s fd ⟨us, []⟩ ((["calls"] : List Str).zip us)) ∧ ∀ base : Heap, K.In base → base.Ns mainGlobals mg → FnOk P w K mg base CX0 10 fa fd ["calls"] (spAll K) := by
  obtain ⟨A, T, TB⟩ := h
  obtain ⟨f, fd, F, hm⟩ := T.f_answers
  have ef : f = fa := Value.ref.inj (Option.some.inj (hm.symm.trans hmg))
  subst ef
  refine ⟨fd, ?_, fun base _ _ => ok_answers_fn T TB F⟩
  obtain ⟨oc, od, kV, doc, pm, an, cdv, ct, osl, rfl, _, _⟩ := F.ex
  exact fun s us hu => match us, hu with | [_], _ => .of_eq rfl
end
end My
set_option Elab.async false
set_option linter.all false
set_option maxRecDepth 100000
set_option maxHeartbeats 2000000
/-! What the top leaves; the row's head. -/
namespace My
open PySem PySem.Spec PyProof.Rows L2
section
variable {K : PySem.W.Frag} {h : Heap} {mg : Str → Option Value}
theorem funG {x : Str} {st : Stmt} {f : Addr} {oc kV dc pm cd ct : Value} {od an : Option Addr} {sl : Array (Option Value)} (X : K.In h) (G : h.Ns mainGlobals mg) (a : PySem.W.nsIn K mainGlobals x = some (some (.ref f))) (l : K.lookup f = some ⟨oc, od, .func (PySem.W.fnOf x x (defArgs st) (defBody st) (defScope st) .none kV dc pm an cd ct), sl⟩) (c : PySem.W.codeIn K cd x = true) (k : PySem.W.keepIn K (.ref f) = true) : FunG K mg x st :=
  ⟨f, _, fun_mk l c k, PySem.W.mg_of X G a⟩
theorem funM {C : Addr} {m q : Str} {st : Stmt} {f : Addr} {oc kV dc pm cd ct : Value} {od an : Option Addr} {sl : Array (Option Value)} (a : PySem.W.findIn K (.ref C) m = some (some (.ref f))) (i : PySem.W.isFn K (.ref f) = true) (l : K.lookup f = some ⟨oc, od, .func (PySem.W.fnOf m q (defArgs st) (defBody st) (defScope st) .none kV dc pm an cd ct), sl⟩) (c : PySem.W.codeIn K cd q = true) (k : PySem.W.keepIn K (.ref f) = true) : FunM K C m q st :=
  ⟨f, _, fun_mk l c k, ⟨a, i, k⟩⟩
theorem funI {x : Str} {C : Addr} {q : Str} {st : Stmt} {f : Addr} {oc kV dc pm cd ct : Value} {od an : Option Addr} {sl : Array (Option Value)} (X : K.In h) (G : h.Ns mainGlobals mg) (n : PySem.W.nsIn K mainGlobals x = some (some (.ref C))) (a : PySem.W.findIn K (.ref C) "__init__" = some (some (.ref f))) (i : PySem.W.isFn K (.ref f) = true) (l : K.lookup f = some ⟨oc, od, .func (PySem.W.fnOf "__init__" q (defArgs st) (defBody st) (defScope st) .none kV dc pm an cd ct), sl⟩) (c : PySem.W.codeIn K cd q = true) (k : PySem.W.keepIn K (.ref f) = true) (mk : PySem.W.makesIn K C = true) (kc : PySem.W.keepIn K (.ref C) = true) : FunI K mg x C q st :=
  ⟨f, _, fun_mk l c k, ⟨mk, a, i, kc⟩, PySem.W.mg_of X G n⟩
theorem intG {x : Str} {v : Int} {t : Tok} (X : K.In h) (G : h.Ns mainGlobals mg) (a : PySem.W.nsIn K mainGlobals x = some (some (.int v t))) : ∃ t, mg x = some (.int v t) := ⟨t, PySem.W.mg_of X G a⟩
theorem rowG {x : Str} {n m : Nat} {t f : Addr} {od : Option Addr} {k1 k2 : Tok} {z : Nat} {sl : Array (Option Value)} (X : K.In h) (G : h.Ns mainGlobals mg) (l : K.lookup t = some ⟨.type "tuple", od, .seq #[.ref f, .int ((n : Nat) : Int) k1, .int ((m : Nat) : Int) k2] z, sl⟩) (a : PySem.W.nsIn K mainGlobals x = some (some (.ref f))) : ∃ f k1 k2, TupK K t [.ref f, .int ((n : Nat) : Int) k1, .int ((m : Nat) : Int) k2] ∧ mg x = some (.ref f) :=
  ⟨f, k1, k2, ⟨_, z, l, rfl, rfl⟩, PySem.W.mg_of X G a⟩
theorem tabG {C t0 t1 t2 t3 t4 t5 t6 t7 t8 t9 t10 t11 t12 t13 t14 : Addr} {od : Option Addr} {z : Nat} {sl : Array (Option Value)} (X : K.In h) (G : h.Ns mainGlobals mg) (n : PySem.W.nsIn K mainGlobals "CALLS" = some (some (.ref C))) (l : K.lookup C = some ⟨.type "tuple", od, .seq #[.ref t0, .ref t1, .ref t2, .ref t3, .ref t4, .ref t5, .ref t6, .ref t7, .ref t8, .ref t9, .ref t10, .ref t11, .ref t12, .ref t13, .ref t14] z, sl⟩)
    (r0 : ∃ f k1 k2, TupK K t0 [.ref f, .int ((3 : Nat) : Int) k1, .int ((2 : Nat) : Int) k2] ∧ mg "answer_begin" = some (.ref f))
    (r1 : ∃ f k1 k2, TupK K t1 [.ref f, .int ((2 : Nat) : Int) k1, .int ((0 : Nat) : Int) k2] ∧ mg "answer_quote" = some (.ref f))
    (r2 : ∃ f k1 k2, TupK K t2 [.ref f, .int ((3 : Nat) : Int) k1, .int ((0 : Nat) : Int) k2] ∧ mg "answer_order" = some (.ref f))
    (r3 : ∃ f k1 k2, TupK K t3 [.ref f, .int ((0 : Nat) : Int) k1, .int ((0 : Nat) : Int) k2] ∧ mg "answer_close" = some (.ref f))
    (r4 : ∃ f k1 k2, TupK K t4 [.ref f, .int ((3 : Nat) : Int) k1, .int ((0 : Nat) : Int) k2] ∧ mg "answer_fix" = some (.ref f))
    (r5 : ∃ f k1 k2, TupK K t5 [.ref f, .int ((0 : Nat) : Int) k1, .int ((0 : Nat) : Int) k2] ∧ mg "answer_putright" = some (.ref f))
    (r6 : ∃ f k1 k2, TupK K t6 [.ref f, .int ((1 : Nat) : Int) k1, .int ((0 : Nat) : Int) k2] ∧ mg "answer_day" = some (.ref f))
    (r7 : ∃ f k1 k2, TupK K t7 [.ref f, .int ((1 : Nat) : Int) k1, .int ((0 : Nat) : Int) k2] ∧ mg "answer_right" = some (.ref f))
    (r8 : ∃ f k1 k2, TupK K t8 [.ref f, .int ((2 : Nat) : Int) k1, .int ((0 : Nat) : Int) k2] ∧ mg "answer_outcome" = some (.ref f))
    (r9 : ∃ f k1 k2, TupK K t9 [.ref f, .int ((1 : Nat) : Int) k1, .int ((0 : Nat) : Int) k2] ∧ mg "answer_holder" = some (.ref f))
    (r10 : ∃ f k1 k2, TupK K t10 [.ref f, .int ((0 : Nat) : Int) k1, .int ((0 : Nat) : Int) k2] ∧ mg "answer_book" = some (.ref f))
    (r11 : ∃ f k1 k2, TupK K t11 [.ref f, .int ((0 : Nat) : Int) k1, .int ((0 : Nat) : Int) k2] ∧ mg "answer_rightbook" = some (.ref f))
    (r12 : ∃ f k1 k2, TupK K t12 [.ref f, .int ((0 : Nat) : Int) k1, .int ((0 : Nat) : Int) k2] ∧ mg "answer_owed" = some (.ref f))
    (r13 : ∃ f k1 k2, TupK K t13 [.ref f, .int ((0 : Nat) : Int) k1, .int ((0 : Nat) : Int) k2] ∧ mg "answer_wrongs" = some (.ref f))
    (r14 : ∃ f k1 k2, TupK K t14 [.ref f, .int ((0 : Nat) : Int) k1, .int ((0 : Nat) : Int) k2] ∧ mg "answer_counts" = some (.ref f))
    : TabAt K mg :=
  ⟨C, [t0, t1, t2, t3, t4, t5, t6, t7, t8, t9, t10, t11, t12, t13, t14], PySem.W.mg_of X G n, ⟨_, z, l, rfl, rfl⟩, .cons r0 ( .cons r1 ( .cons r2 ( .cons r3 ( .cons r4 ( .cons r5 ( .cons r6 ( .cons r7 ( .cons r8 ( .cons r9 ( .cons r10 ( .cons r11 ( .cons r12 ( .cons r13 (.cons r14 .nil))))))))))))))⟩
theorem txt_mk {cDeal cOut cRes cBook cTerms cRec cDay cRight cPut cFund cRead : Addr}
    (n_Deal : PySem.W.nsIn K mainGlobals "Deal" = some (some (.ref cDeal)))
    (n_Outcome : PySem.W.nsIn K mainGlobals "Outcome" = some (some (.ref cOut)))
    (n_DayResult : PySem.W.nsIn K mainGlobals "DayResult" = some (some (.ref cRes)))
    (n_Book : PySem.W.nsIn K mainGlobals "Book" = some (some (.ref cBook)))
    (n_Terms : PySem.W.nsIn K mainGlobals "Terms" = some (some (.ref cTerms)))
    (n_Reckoning : PySem.W.nsIn K mainGlobals "Reckoning" = some (some (.ref cRec)))
    (n_ClosedDay : PySem.W.nsIn K mainGlobals "ClosedDay" = some (some (.ref cDay)))
    (n_RightDay : PySem.W.nsIn K mainGlobals "RightDay" = some (some (.ref cRight)))
    (n_PutRight : PySem.W.nsIn K mainGlobals "PutRight" = some (some (.ref cPut)))
    (n_Fund : PySem.W.nsIn K mainGlobals "Fund" = some (some (.ref cFund)))
    (n_CallReader : PySem.W.nsIn K mainGlobals "CallReader" = some (some (.ref cRead)))
    (b_len : mg "len" = Option.none)
    (b_sum : mg "sum" = Option.none)
    (b_max : mg "max" = Option.none)
    (b_abs : mg "abs" = Option.none)
    (b_all : mg "all" = Option.none)
    (b_list : mg "list" = Option.none)
    (b_zip : mg "zip" = Option.none)
    (b_enumerate : mg "enumerate" = Option.none)
    (b_range : mg "range" = Option.none)
    (g_THINGS : ∃ t, mg "THINGS" = some (.int (6) t))
    (g_HOLDERS : ∃ t, mg "HOLDERS" = some (.int (10) t))
    (g_MOST_DEALS : ∃ t, mg "MOST_DEALS" = some (.int (10) t))
    (g_MOST_DAYS : ∃ t, mg "MOST_DAYS" = some (.int (60) t))
    (g_MOST_CORRECTIONS : ∃ t, mg "MOST_CORRECTIONS" = some (.int (60) t))
    (g_MOST_FIRST_CASH : ∃ t, mg "MOST_FIRST_CASH" = some (.int (1000000000000) t))
    (g_MOST_RATE : ∃ t, mg "MOST_RATE" = some (.int (1000000) t))
    (g_MOST_LIMIT : ∃ t, mg "MOST_LIMIT" = some (.int (1000000) t))
    (g_MOST_QUANTITY : ∃ t, mg "MOST_QUANTITY" = some (.int (1000000) t))
    (g_MOST_FIRST_UNITS : ∃ t, mg "MOST_FIRST_UNITS" = some (.int (1000000000000000) t))
    (g_MOST_QUOTE : ∃ t, mg "MOST_QUOTE" = some (.int (1000000000000) t))
    (g_MOST_AMOUNT : ∃ t, mg "MOST_AMOUNT" = some (.int (1000000000000) t))
    (g_MILLION : ∃ t, mg "MILLION" = some (.int (1000000) t))
    (g_FEE_PARTS : ∃ t, mg "FEE_PARTS" = some (.int (365000000) t))
    (g_MONEY_IN : ∃ t, mg "MONEY_IN" = some (.int (0) t))
    (g_UNITS_OUT : ∃ t, mg "UNITS_OUT" = some (.int (1) t))
    (g_OUT_OF_RANGE : ∃ t, mg "OUT_OF_RANGE" = some (.int (-1) t))
    (g_WRONG_FORM : ∃ t, mg "WRONG_FORM" = some (.int (-2) t))
    (g_NOT_THERE : ∃ t, mg "NOT_THERE" = some (.int (-4) t))
    (g_MORE_THAN_THERE_IS : ∃ t, mg "MORE_THAN_THERE_IS" = some (.int (-7) t))
    (g_AS_MANY_AS_MAY_BE : ∃ t, mg "AS_MANY_AS_MAY_BE" = some (.int (-8) t))
    (g_NO_PRICE : ∃ t, mg "NO_PRICE" = some (.int (-9) t))
    (cl_Deal : Cls K cDeal)
    (na_Deal_holder : PySem.W.findIn K (.ref cDeal) "holder" = some none)
    (na_Deal_kind : PySem.W.findIn K (.ref cDeal) "kind" = some none)
    (na_Deal_amount : PySem.W.findIn K (.ref cDeal) "amount" = some none)
    (cl_Outcome : Cls K cOut)
    (na_Outcome_money : PySem.W.findIn K (.ref cOut) "money" = some none)
    (na_Outcome_units : PySem.W.findIn K (.ref cOut) "units" = some none)
    (cl_DayResult : Cls K cRes)
    (na_DayResult_fee : PySem.W.findIn K (.ref cRes) "fee" = some none)
    (na_DayResult_outcomes : PySem.W.findIn K (.ref cRes) "outcomes" = some none)
    (cl_Book : Cls K cBook)
    (na_Book_cash : PySem.W.findIn K (.ref cBook) "cash" = some none)
    (na_Book_units : PySem.W.findIn K (.ref cBook) "units" = some none)
    (cl_Terms : Cls K cTerms)
    (na_Terms_first_cash : PySem.W.findIn K (.ref cTerms) "first_cash" = some none)
    (na_Terms_rate : PySem.W.findIn K (.ref cTerms) "rate" = some none)
    (na_Terms_limit : PySem.W.findIn K (.ref cTerms) "limit" = some none)
    (na_Terms_quantities : PySem.W.findIn K (.ref cTerms) "quantities" = some none)
    (na_Terms_first_units : PySem.W.findIn K (.ref cTerms) "first_units" = some none)
    (cl_Reckoning : Cls K cRec)
    (na_Reckoning_value : PySem.W.findIn K (.ref cRec) "value" = some none)
    (na_Reckoning_units : PySem.W.findIn K (.ref cRec) "units" = some none)
    (na_Reckoning_fee : PySem.W.findIn K (.ref cRec) "fee" = some none)
    (cl_ClosedDay : Cls K cDay)
    (na_ClosedDay_quotes : PySem.W.findIn K (.ref cDay) "quotes" = some none)
    (na_ClosedDay_deals : PySem.W.findIn K (.ref cDay) "deals" = some none)
    (na_ClosedDay_reckoning : PySem.W.findIn K (.ref cDay) "reckoning" = some none)
    (na_ClosedDay_published : PySem.W.findIn K (.ref cDay) "published" = some none)
    (na_ClosedDay_standing : PySem.W.findIn K (.ref cDay) "standing" = some none)
    (cl_RightDay : Cls K cRight)
    (na_RightDay_reckoning : PySem.W.findIn K (.ref cRight) "reckoning" = some none)
    (na_RightDay_wrong : PySem.W.findIn K (.ref cRight) "wrong" = some none)
    (na_RightDay_result : PySem.W.findIn K (.ref cRight) "result" = some none)
    (cl_PutRight : Cls K cPut)
    (na_PutRight_wrong_days : PySem.W.findIn K (.ref cPut) "wrong_days" = some none)
    (na_PutRight_owed : PySem.W.findIn K (.ref cPut) "owed" = some none)
    (na_PutRight_fees : PySem.W.findIn K (.ref cPut) "fees" = some none)
    (cl_Fund : Cls K cFund)
    (na_Fund_terms : PySem.W.findIn K (.ref cFund) "terms" = some none)
    (na_Fund_quotes : PySem.W.findIn K (.ref cFund) "quotes" = some none)
    (na_Fund_deals : PySem.W.findIn K (.ref cFund) "deals" = some none)
    (na_Fund_days : PySem.W.findIn K (.ref cFund) "days" = some none)
    (na_Fund_corrections : PySem.W.findIn K (.ref cFund) "corrections" = some none)
    (na_Fund_balances : PySem.W.findIn K (.ref cFund) "balances" = some none)
    (cl_CallReader : Cls K cRead)
    (na_CallReader_calls : PySem.W.findIn K (.ref cRead) "calls" = some none)
    (na_CallReader_place : PySem.W.findIn K (.ref cRead) "place" = some none)
    (f_Deal : FunI K mg "Deal" cDeal "Deal.__init__" s_Deal_init)
    (f_Outcome : FunI K mg "Outcome" cOut "Outcome.__init__" s_Outcome_init)
    (f_DayResult : FunI K mg "DayResult" cRes "DayResult.__init__" s_DayResult_init)
    (f_Book : FunI K mg "Book" cBook "Book.__init__" s_Book_init)
    (f_Book_units_of : FunM K cBook "units_of" "Book.units_of" s_Book_units_of)
    (f_Book_units_in_all : FunM K cBook "units_in_all" "Book.units_in_all" s_Book_units_in_all)
    (f_Book_go_past : FunM K cBook "go_past" "Book.go_past" s_Book_go_past)
    (f_Terms : FunI K mg "Terms" cTerms "Terms.__init__" s_Terms_init)
    (f_Reckoning : FunI K mg "Reckoning" cRec "Reckoning.__init__" s_Reckoning_init)
    (f_Reckoning_has_price : FunM K cRec "has_price" "Reckoning.has_price" s_Reckoning_has_price)
    (f_first_book : FunG K mg "first_book" s_first_book)
    (f_worth_of_things : FunG K mg "worth_of_things" s_worth_of_things)
    (f_reckon : FunG K mg "reckon" s_reckon)
    (f_outcome_at : FunG K mg "outcome_at" s_outcome_at)
    (f_result_at : FunG K mg "result_at" s_result_at)
    (f_ClosedDay : FunI K mg "ClosedDay" cDay "ClosedDay.__init__" s_ClosedDay_init)
    (f_RightDay : FunI K mg "RightDay" cRight "RightDay.__init__" s_RightDay_init)
    (f_book_behind : FunG K mg "book_behind" s_book_behind)
    (f_right_quotes : FunG K mg "right_quotes" s_right_quotes)
    (f_is_done_again : FunG K mg "is_done_again" s_is_done_again)
    (f_right_day : FunG K mg "right_day" s_right_day)
    (f_right_history : FunG K mg "right_history" s_right_history)
    (f_numbers_of_wrong_days : FunG K mg "numbers_of_wrong_days" s_numbers_of_wrong_days)
    (f_add_owed : FunG K mg "add_owed" s_add_owed)
    (f_owed_to_holders : FunG K mg "owed_to_holders" s_owed_to_holders)
    (f_PutRight : FunI K mg "PutRight" cPut "PutRight.__init__" s_PutRight_init)
    (f_Fund : FunI K mg "Fund" cFund "Fund.__init__" s_Fund_init)
    (f_Fund_begin_anew : FunM K cFund "begin_anew" "Fund.begin_anew" s_Fund_begin_anew)
    (f_Fund_standing_book : FunM K cFund "standing_book" "Fund.standing_book" s_Fund_standing_book)
    (f_Fund_history : FunM K cFund "history" "Fund.history" s_Fund_history)
    (f_Fund_right_book : FunM K cFund "right_book" "Fund.right_book" s_Fund_right_book)
    (f_Fund_owed_to_each : FunM K cFund "owed_to_each" "Fund.owed_to_each" s_Fund_owed_to_each)
    (f_Fund_asked_back : FunM K cFund "asked_back" "Fund.asked_back" s_Fund_asked_back)
    (f_Fund_units_left : FunM K cFund "units_left" "Fund.units_left" s_Fund_units_left)
    (f_Fund_reckon_today : FunM K cFund "reckon_today" "Fund.reckon_today" s_Fund_reckon_today)
    (f_Fund_close_today : FunM K cFund "close_today" "Fund.close_today" s_Fund_close_today)
    (f_Fund_put_right : FunM K cFund "put_right" "Fund.put_right" s_Fund_put_right)
    (f_new_fund : FunG K mg "new_fund" s_new_fund)
    (f_is_row : FunG K mg "is_row" s_is_row)
    (f_is_thing : FunG K mg "is_thing" s_is_thing)
    (f_is_holder : FunG K mg "is_holder" s_is_holder)
    (f_is_quote : FunG K mg "is_quote" s_is_quote)
    (f_day_refusal : FunG K mg "day_refusal" s_day_refusal)
    (f_answer_begin : FunG K mg "answer_begin" s_answer_begin)
    (f_answer_quote : FunG K mg "answer_quote" s_answer_quote)
    (f_answer_order : FunG K mg "answer_order" s_answer_order)
    (f_answer_close : FunG K mg "answer_close" s_answer_close)
    (f_answer_fix : FunG K mg "answer_fix" s_answer_fix)
    (f_answer_putright : FunG K mg "answer_putright" s_answer_putright)
    (f_answer_day : FunG K mg "answer_day" s_answer_day)
    (f_answer_right : FunG K mg "answer_right" s_answer_right)
    (f_answer_outcome : FunG K mg "answer_outcome" s_answer_outcome)
    (f_answer_holder : FunG K mg "answer_holder" s_answer_holder)
    (f_book_answer : FunG K mg "book_answer" s_book_answer)
    (f_answer_book : FunG K mg "answer_book" s_answer_book)
    (f_answer_rightbook : FunG K mg "answer_rightbook" s_answer_rightbook)
    (f_answer_owed : FunG K mg "answer_owed" s_answer_owed)
    (f_answer_wrongs : FunG K mg "answer_wrongs" s_answer_wrongs)
    (f_answer_counts : FunG K mg "answer_counts" s_answer_counts)
    (f_CallReader : FunI K mg "CallReader" cRead "CallReader.__init__" s_CallReader_init)
    (f_CallReader_at_end : FunM K cRead "at_end" "CallReader.at_end" s_CallReader_at_end)
    (f_CallReader_take_number : FunM K cRead "take_number" "CallReader.take_number" s_CallReader_take_number)
    (f_CallReader_take_several : FunM K cRead "take_several" "CallReader.take_several" s_CallReader_take_several)
    (f_CallReader_take_row : FunM K cRead "take_row" "CallReader.take_row" s_CallReader_take_row)
    (f_answers : FunG K mg "answers" s_answers)
    (tb : TabAt K mg) : ∃ A : Ad, Txt K mg A ∧ TabAt K mg :=
  ⟨⟨cDeal, cOut, cRes, cBook, cTerms, cRec, cDay, cRight, cPut, cFund, cRead⟩, ⟨b_len, b_sum, b_max, b_abs, b_all, b_list, b_zip, b_enumerate, b_range, g_THINGS, g_HOLDERS, g_MOST_DEALS, g_MOST_DAYS, g_MOST_CORRECTIONS, g_MOST_FIRST_CASH, g_MOST_RATE, g_MOST_LIMIT, g_MOST_QUANTITY, g_MOST_FIRST_UNITS, g_MOST_QUOTE, g_MOST_AMOUNT, g_MILLION, g_FEE_PARTS, g_MONEY_IN, g_UNITS_OUT, g_OUT_OF_RANGE, g_WRONG_FORM, g_NOT_THERE, g_MORE_THAN_THERE_IS, g_AS_MANY_AS_MAY_BE, g_NO_PRICE, cl_Deal, na_Deal_holder, na_Deal_kind, na_Deal_amount, cl_Outcome, na_Outcome_money, na_Outcome_units, cl_DayResult, na_DayResult_fee, na_DayResult_outcomes, cl_Book, na_Book_cash, na_Book_units, cl_Terms, na_Terms_first_cash, na_Terms_rate, na_Terms_limit, na_Terms_quantities, na_Terms_first_units, cl_Reckoning, na_Reckoning_value, na_Reckoning_units, na_Reckoning_fee, cl_ClosedDay, na_ClosedDay_quotes, na_ClosedDay_deals, na_ClosedDay_reckoning, na_ClosedDay_published, na_ClosedDay_standing, cl_RightDay, na_RightDay_reckoning, na_RightDay_wrong, na_RightDay_result, cl_PutRight, na_PutRight_wrong_days, na_PutRight_owed, na_PutRight_fees, cl_Fund, na_Fund_terms, na_Fund_quotes, na_Fund_deals, na_Fund_days, na_Fund_corrections, na_Fund_balances, cl_CallReader, na_CallReader_calls, na_CallReader_place, f_Deal, f_Outcome, f_DayResult, f_Book, f_Book_units_of, f_Book_units_in_all, f_Book_go_past, f_Terms, f_Reckoning, f_Reckoning_has_price, f_first_book, f_worth_of_things, f_reckon, f_outcome_at, f_result_at, f_ClosedDay, f_RightDay, f_book_behind, f_right_quotes, f_is_done_again, f_right_day, f_right_history, f_numbers_of_wrong_days, f_add_owed, f_owed_to_holders, f_PutRight, f_Fund, f_Fund_begin_anew, f_Fund_standing_book, f_Fund_history, f_Fund_right_book, f_Fund_owed_to_each, f_Fund_asked_back, f_Fund_units_left, f_Fund_reckon_today, f_Fund_close_today, f_Fund_put_right, f_new_fund, f_is_row, f_is_thing, f_is_holder, f_is_quote, f_day_refusal, f_answer_begin, f_answer_quote, f_answer_order, f_answer_close, f_answer_fix, f_answer_putright, f_answer_day, f_answer_right, f_answer_outcome, f_answer_holder, f_book_answer, f_answer_book, f_answer_rightbook, f_answer_owed, f_answer_wrongs, f_answer_counts, f_CallReader, f_CallReader_at_end, f_CallReader_take_number, f_CallReader_take_several, f_CallReader_take_row, f_answers⟩, tb⟩
end
end My
def PySem.W.Fast.tw10707769721905258174 : Unit := ()
def PySem.W.Fast.tw12698083050581664354 : Unit := ()
def PySem.W.Fast.tw10569700268446434223 : Unit := ()
def PySem.W.Fast.tw15311154600494695134 : Unit := ()
def PySem.W.Fast.tw15362811223560241914 : Unit := ()
def PySem.W.Fast.tw11983644348568814056 : Unit := ()
def PySem.W.Fast.tw470449369316221020 : Unit := ()
def PySem.W.Fast.tw14020181654481610064 : Unit := ()
def PySem.W.Fast.tw16610566925902751438 : Unit := ()
def PySem.W.Fast.tw8463127422240147100 : Unit := ()
def PySem.W.Fast.tw6274416899520187561 : Unit := ()
def PySem.W.Fast.tw9499147269709454524 : Unit := ()
def PySem.W.Fast.tw11011089849330619244 : Unit := ()
def PySem.W.Fast.tw13937745778450640897 : Unit := ()
def PySem.W.Fast.tw4498794127385266347 : Unit := ()
def PySem.W.Fast.tw14193542624868951858 : Unit := ()
def PySem.W.Fast.tw3899644852527005701 : Unit := ()
def PySem.W.Fast.tw18084089625720183893 : Unit := ()
def PySem.W.Fast.tw2208557482803940201 : Unit := ()
def PySem.W.Fast.tw18445313748081443411 : Unit := ()
def PySem.W.Fast.tw17290076073081613194 : Unit := ()
def PySem.W.Fast.tw15905569123180681650 : Unit := ()
def PySem.W.Fast.tw4826987424720977366 : Unit := ()
def PySem.W.Fast.tw6150289874939681141 : Unit := ()
def PySem.W.Fast.tw1699578210543380425 : Unit := ()
def PySem.W.Fast.tw1791425564084627553 : Unit := ()
def PySem.W.Fast.tw8012394525907848907 : Unit := ()
def PySem.W.Fast.tw14480805617858199350 : Unit := ()
def PySem.W.Fast.tw943553553327142008 : Unit := ()
def PySem.W.Fast.tw13599761555385194751 : Unit := ()
def PySem.W.Fast.tw11986398407610628789 : Unit := ()
open PySem PySem.W PyProof.Rows
set_option maxRecDepth 100000 in
set_option maxHeartbeats 0 in
theorem PySem.Challenge.cw_pricesright_s01_answers_holds : PySem.Challenge.rw_pricesright_s01_answers.Holds := by
  w_on; k_headS; (case hw => exact ⟨[.list [.int 3]], by decide +kernel, by decide +kernel⟩)
  k_fillS
  refine L2.walk_specK (r := PySem.Challenge.rw_pricesright_s01_answers) (k := 10) (CX := L2.CX0) (ps := ["calls"]) (sp := My.spAll) (by decide +kernel) rfl rfl ⟨rfl, by decide, by decide⟩ (fun w h Y => PySem.W.kIn_of Y) ?F ?S (fun _ _ _ _ z => z)
  case F =>
    intro w mg fa h Y KX G hmg
    refine' My.fin_mk hmg ?txt
    refine' My.txt_mk ?n_Deal ?n_Outcome ?n_DayResult ?n_Book ?n_Terms ?n_Reckoning ?n_ClosedDay ?n_RightDay ?n_PutRight ?n_Fund ?n_CallReader ?b_len ?b_sum ?b_max ?b_abs ?b_all ?b_list ?b_zip ?b_enumerate ?b_range ?g_THINGS ?g_HOLDERS ?g_MOST_DEALS ?g_MOST_DAYS ?g_MOST_CORRECTIONS ?g_MOST_FIRST_CASH ?g_MOST_RATE ?g_MOST_LIMIT ?g_MOST_QUANTITY ?g_MOST_FIRST_UNITS ?g_MOST_QUOTE ?g_MOST_AMOUNT ?g_MILLION ?g_FEE_PARTS ?g_MONEY_IN ?g_UNITS_OUT ?g_OUT_OF_RANGE ?g_WRONG_FORM ?g_NOT_THERE ?g_MORE_THAN_THERE_IS ?g_AS_MANY_AS_MAY_BE ?g_NO_PRICE ?cl_Deal ?na_Deal_holder ?na_Deal_kind ?na_Deal_amount ?cl_Outcome ?na_Outcome_money ?na_Outcome_units ?cl_DayResult ?na_DayResult_fee ?na_DayResult_outcomes ?cl_Book ?na_Book_cash ?na_Book_units ?cl_Terms ?na_Terms_first_cash ?na_Terms_rate ?na_Terms_limit ?na_Terms_quantities ?na_Terms_first_units ?cl_Reckoning ?na_Reckoning_value ?na_Reckoning_units ?na_Reckoning_fee ?cl_ClosedDay ?na_ClosedDay_quotes ?na_ClosedDay_deals ?na_ClosedDay_reckoning ?na_ClosedDay_published ?na_ClosedDay_standing ?cl_RightDay ?na_RightDay_reckoning ?na_RightDay_wrong ?na_RightDay_result ?cl_PutRight ?na_PutRight_wrong_days ?na_PutRight_owed ?na_PutRight_fees ?cl_Fund ?na_Fund_terms ?na_Fund_quotes ?na_Fund_deals ?na_Fund_days ?na_Fund_corrections ?na_Fund_balances ?cl_CallReader ?na_CallReader_calls ?na_CallReader_place ?f_Deal ?f_Outcome ?f_DayResult ?f_Book ?f_Book_units_of ?f_Book_units_in_all ?f_Book_go_past ?f_Terms ?f_Reckoning ?f_Reckoning_has_price ?f_first_book ?f_worth_of_things ?f_reckon ?f_outcome_at ?f_result_at ?f_ClosedDay ?f_RightDay ?f_book_behind ?f_right_quotes ?f_is_done_again ?f_right_day ?f_right_history ?f_numbers_of_wrong_days ?f_add_owed ?f_owed_to_holders ?f_PutRight ?f_Fund ?f_Fund_begin_anew ?f_Fund_standing_book ?f_Fund_history ?f_Fund_right_book ?f_Fund_owed_to_each ?f_Fund_asked_back ?f_Fund_units_left ?f_Fund_reckon_today ?f_Fund_close_today ?f_Fund_put_right ?f_new_fund ?f_is_row ?f_is_thing ?f_is_holder ?f_is_quote ?f_day_refusal ?f_answer_begin ?f_answer_quote ?f_answer_order ?f_answer_close ?f_answer_fix ?f_answer_putright ?f_answer_day ?f_answer_right ?f_answer_outcome ?f_answer_holder ?f_book_answer ?f_answer_book ?f_answer_rightbook ?f_answer_owed ?f_answer_wrongs ?f_answer_counts ?f_CallReader ?f_CallReader_at_end ?f_CallReader_take_number ?f_CallReader_take_several ?f_CallReader_take_row ?f_answers ?tb
    case n_Deal => k_is
    case n_Outcome => k_is
    case n_DayResult => k_is
    case n_Book => k_is
    case n_Terms => k_is
    case n_Reckoning => k_is
    case n_ClosedDay => k_is
    case n_RightDay => k_is
    case n_PutRight => k_is
    case n_Fund => k_is
    case n_CallReader => k_is
    case b_len => exact PySem.W.mg_none_of KX G (by k_is)
    case b_sum => exact PySem.W.mg_none_of KX G (by k_is)
    case b_max => exact PySem.W.mg_none_of KX G (by k_is)
    case b_abs => exact PySem.W.mg_none_of KX G (by k_is)
    case b_all => exact PySem.W.mg_none_of KX G (by k_is)
    case b_list => exact PySem.W.mg_none_of KX G (by k_is)
    case b_zip => exact PySem.W.mg_none_of KX G (by k_is)
    case b_enumerate => exact PySem.W.mg_none_of KX G (by k_is)
    case b_range => exact PySem.W.mg_none_of KX G (by k_is)
    case g_THINGS => (refine' My.intG KX G ?a; (case a => k_is))
    case g_HOLDERS => (refine' My.intG KX G ?a; (case a => k_is))
    case g_MOST_DEALS => (refine' My.intG KX G ?a; (case a => k_is))
    case g_MOST_DAYS => (refine' My.intG KX G ?a; (case a => k_is))
    case g_MOST_CORRECTIONS => (refine' My.intG KX G ?a; (case a => k_is))
    case g_MOST_FIRST_CASH => (refine' My.intG KX G ?a; (case a => k_is))
    case g_MOST_RATE => (refine' My.intG KX G ?a; (case a => k_is))
    case g_MOST_LIMIT => (refine' My.intG KX G ?a; (case a => k_is))
    case g_MOST_QUANTITY => (refine' My.intG KX G ?a; (case a => k_is))
    case g_MOST_FIRST_UNITS => (refine' My.intG KX G ?a; (case a => k_is))
    case g_MOST_QUOTE => (refine' My.intG KX G ?a; (case a => k_is))
    case g_MOST_AMOUNT => (refine' My.intG KX G ?a; (case a => k_is))
    case g_MILLION => (refine' My.intG KX G ?a; (case a => k_is))
    case g_FEE_PARTS => (refine' My.intG KX G ?a; (case a => k_is))
    case g_MONEY_IN => (refine' My.intG KX G ?a; (case a => k_is))
    case g_UNITS_OUT => (refine' My.intG KX G ?a; (case a => k_is))
    case g_OUT_OF_RANGE => (refine' My.intG KX G ?a; (case a => k_is))
    case g_WRONG_FORM => (refine' My.intG KX G ?a; (case a => k_is))
    case g_NOT_THERE => (refine' My.intG KX G ?a; (case a => k_is))
    case g_MORE_THAN_THERE_IS => (refine' My.intG KX G ?a; (case a => k_is))
    case g_AS_MANY_AS_MAY_BE => (refine' My.intG KX G ?a; (case a => k_is))
    case g_NO_PRICE => (refine' My.intG KX G ?a; (case a => k_is))
    case cl_Deal => exact ⟨by k_is, by k_is, by k_is, by k_is⟩
    case na_Deal_holder => k_is
    case na_Deal_kind => k_is
    case na_Deal_amount => k_is
    case cl_Outcome => exact ⟨by k_is, by k_is, by k_is, by k_is⟩
    case na_Outcome_money => k_is
    case na_Outcome_units => k_is
    case cl_DayResult => exact ⟨by k_is, by k_is, by k_is, by k_is⟩
    case na_DayResult_fee => k_is
    case na_DayResult_outcomes => k_is
    case cl_Book => exact ⟨by k_is, by k_is, by k_is, by k_is⟩
    case na_Book_cash => k_is
    case na_Book_units => k_is
    case cl_Terms => exact ⟨by k_is, by k_is, by k_is, by k_is⟩
    case na_Terms_first_cash => k_is
    case na_Terms_rate => k_is
    case na_Terms_limit => k_is
    case na_Terms_quantities => k_is
    case na_Terms_first_units => k_is
    case cl_Reckoning => exact ⟨by k_is, by k_is, by k_is, by k_is⟩
    case na_Reckoning_value => k_is
    case na_Reckoning_units => k_is
    case na_Reckoning_fee => k_is
    case cl_ClosedDay => exact ⟨by k_is, by k_is, by k_is, by k_is⟩
    case na_ClosedDay_quotes => k_is
    case na_ClosedDay_deals => k_is
    case na_ClosedDay_reckoning => k_is
    case na_ClosedDay_published => k_is
    case na_ClosedDay_standing => k_is
    case cl_RightDay => exact ⟨by k_is, by k_is, by k_is, by k_is⟩
    case na_RightDay_reckoning => k_is
    case na_RightDay_wrong => k_is
    case na_RightDay_result => k_is
    case cl_PutRight => exact ⟨by k_is, by k_is, by k_is, by k_is⟩
    case na_PutRight_wrong_days => k_is
    case na_PutRight_owed => k_is
    case na_PutRight_fees => k_is
    case cl_Fund => exact ⟨by k_is, by k_is, by k_is, by k_is⟩
    case na_Fund_terms => k_is
    case na_Fund_quotes => k_is
    case na_Fund_deals => k_is
    case na_Fund_days => k_is
    case na_Fund_corrections => k_is
    case na_Fund_balances => k_is
    case cl_CallReader => exact ⟨by k_is, by k_is, by k_is, by k_is⟩
    case na_CallReader_calls => k_is
    case na_CallReader_place => k_is
    case f_Deal => (refine' My.funI KX G ?n ?a ?i ?l ?c ?k ?mk ?kc; (case n => k_is); (case a => k_is); (case i => k_is); (case l => k_is); (case c => k_is); (case k => k_is); (case mk => k_is); (case kc => k_is))
    case f_Outcome => (refine' My.funI KX G ?n ?a ?i ?l ?c ?k ?mk ?kc; (case n => k_is); (case a => k_is); (case i => k_is); (case l => k_is); (case c => k_is); (case k => k_is); (case mk => k_is); (case kc => k_is))
    case f_DayResult => (refine' My.funI KX G ?n ?a ?i ?l ?c ?k ?mk ?kc; (case n => k_is); (case a => k_is); (case i => k_is); (case l => k_is); (case c => k_is); (case k => k_is); (case mk => k_is); (case kc => k_is))
    case f_Book => (refine' My.funI KX G ?n ?a ?i ?l ?c ?k ?mk ?kc; (case n => k_is); (case a => k_is); (case i => k_is); (case l => k_is); (case c => k_is); (case k => k_is); (case mk => k_is); (case kc => k_is))
    case f_Book_units_of => (refine' My.funM ?a ?i ?l ?c ?k; (case a => k_is); (case i => k_is); (case l => k_is); (case c => k_is); (case k => k_is))
    case f_Book_units_in_all => (refine' My.funM ?a ?i ?l ?c ?k; (case a => k_is); (case i => k_is); (case l => k_is); (case c => k_is); (case k => k_is))
    case f_Book_go_past => (refine' My.funM ?a ?i ?l ?c ?k; (case a => k_is); (case i => k_is); (case l => k_is); (case c => k_is); (case k => k_is))
    case f_Terms => (refine' My.funI KX G ?n ?a ?i ?l ?c ?k ?mk ?kc; (case n => k_is); (case a => k_is); (case i => k_is); (case l => k_is); (case c => k_is); (case k => k_is); (case mk => k_is); (case kc => k_is))
    case f_Reckoning => (refine' My.funI KX G ?n ?a ?i ?l ?c ?k ?mk ?kc; (case n => k_is); (case a => k_is); (case i => k_is); (case l => k_is); (case c => k_is); (case k => k_is); (case mk => k_is); (case kc => k_is))
    case f_Reckoning_has_price => (refine' My.funM ?a ?i ?l ?c ?k; (case a => k_is); (case i => k_is); (case l => k_is); (case c => k_is); (case k => k_is))
    case f_first_book => (refine' My.funG KX G ?a ?l ?c ?k; (case a => k_is); (case l => k_is); (case c => k_is); (case k => k_is))
    case f_worth_of_things => (refine' My.funG KX G ?a ?l ?c ?k; (case a => k_is); (case l => k_is); (case c => k_is); (case k => k_is))
    case f_reckon => (refine' My.funG KX G ?a ?l ?c ?k; (case a => k_is); (case l => k_is); (case c => k_is); (case k => k_is))
    case f_outcome_at => (refine' My.funG KX G ?a ?l ?c ?k; (case a => k_is); (case l => k_is); (case c => k_is); (case k => k_is))
    case f_result_at => (refine' My.funG KX G ?a ?l ?c ?k; (case a => k_is); (case l => k_is); (case c => k_is); (case k => k_is))
    case f_ClosedDay => (refine' My.funI KX G ?n ?a ?i ?l ?c ?k ?mk ?kc; (case n => k_is); (case a => k_is); (case i => k_is); (case l => k_is); (case c => k_is); (case k => k_is); (case mk => k_is); (case kc => k_is))
    case f_RightDay => (refine' My.funI KX G ?n ?a ?i ?l ?c ?k ?mk ?kc; (case n => k_is); (case a => k_is); (case i => k_is); (case l => k_is); (case c => k_is); (case k => k_is); (case mk => k_is); (case kc => k_is))
    case f_book_behind => (refine' My.funG KX G ?a ?l ?c ?k; (case a => k_is); (case l => k_is); (case c => k_is); (case k => k_is))
    case f_right_quotes => (refine' My.funG KX G ?a ?l ?c ?k; (case a => k_is); (case l => k_is); (case c => k_is); (case k => k_is))
    case f_is_done_again => (refine' My.funG KX G ?a ?l ?c ?k; (case a => k_is); (case l => k_is); (case c => k_is); (case k => k_is))
    case f_right_day => (refine' My.funG KX G ?a ?l ?c ?k; (case a => k_is); (case l => k_is); (case c => k_is); (case k => k_is))
    case f_right_history => (refine' My.funG KX G ?a ?l ?c ?k; (case a => k_is); (case l => k_is); (case c => k_is); (case k => k_is))
    case f_numbers_of_wrong_days => (refine' My.funG KX G ?a ?l ?c ?k; (case a => k_is); (case l => k_is); (case c => k_is); (case k => k_is))
    case f_add_owed => (refine' My.funG KX G ?a ?l ?c ?k; (case a => k_is); (case l => k_is); (case c => k_is); (case k => k_is))
    case f_owed_to_holders => (refine' My.funG KX G ?a ?l ?c ?k; (case a => k_is); (case l => k_is); (case c => k_is); (case k => k_is))
    case f_PutRight => (refine' My.funI KX G ?n ?a ?i ?l ?c ?k ?mk ?kc; (case n => k_is); (case a => k_is); (case i => k_is); (case l => k_is); (case c => k_is); (case k => k_is); (case mk => k_is); (case kc => k_is))
    case f_Fund => (refine' My.funI KX G ?n ?a ?i ?l ?c ?k ?mk ?kc; (case n => k_is); (case a => k_is); (case i => k_is); (case l => k_is); (case c => k_is); (case k => k_is); (case mk => k_is); (case kc => k_is))
    case f_Fund_begin_anew => (refine' My.funM ?a ?i ?l ?c ?k; (case a => k_is); (case i => k_is); (case l => k_is); (case c => k_is); (case k => k_is))
    case f_Fund_standing_book => (refine' My.funM ?a ?i ?l ?c ?k; (case a => k_is); (case i => k_is); (case l => k_is); (case c => k_is); (case k => k_is))
    case f_Fund_history => (refine' My.funM ?a ?i ?l ?c ?k; (case a => k_is); (case i => k_is); (case l => k_is); (case c => k_is); (case k => k_is))
    case f_Fund_right_book => (refine' My.funM ?a ?i ?l ?c ?k; (case a => k_is); (case i => k_is); (case l => k_is); (case c => k_is); (case k => k_is))
    case f_Fund_owed_to_each => (refine' My.funM ?a ?i ?l ?c ?k; (case a => k_is); (case i => k_is); (case l => k_is); (case c => k_is); (case k => k_is))
    case f_Fund_asked_back => (refine' My.funM ?a ?i ?l ?c ?k; (case a => k_is); (case i => k_is); (case l => k_is); (case c => k_is); (case k => k_is))
    case f_Fund_units_left => (refine' My.funM ?a ?i ?l ?c ?k; (case a => k_is); (case i => k_is); (case l => k_is); (case c => k_is); (case k => k_is))
    case f_Fund_reckon_today => (refine' My.funM ?a ?i ?l ?c ?k; (case a => k_is); (case i => k_is); (case l => k_is); (case c => k_is); (case k => k_is))
    case f_Fund_close_today => (refine' My.funM ?a ?i ?l ?c ?k; (case a => k_is); (case i => k_is); (case l => k_is); (case c => k_is); (case k => k_is))
    case f_Fund_put_right => (refine' My.funM ?a ?i ?l ?c ?k; (case a => k_is); (case i => k_is); (case l => k_is); (case c => k_is); (case k => k_is))
    case f_new_fund => (refine' My.funG KX G ?a ?l ?c ?k; (case a => k_is); (case l => k_is); (case c => k_is); (case k => k_is))
    case f_is_row => (refine' My.funG KX G ?a ?l ?c ?k; (case a => k_is); (case l => k_is); (case c => k_is); (case k => k_is))
    case f_is_thing => (refine' My.funG KX G ?a ?l ?c ?k; (case a => k_is); (case l => k_is); (case c => k_is); (case k => k_is))
    case f_is_holder => (refine' My.funG KX G ?a ?l ?c ?k; (case a => k_is); (case l => k_is); (case c => k_is); (case k => k_is))
    case f_is_quote => (refine' My.funG KX G ?a ?l ?c ?k; (case a => k_is); (case l => k_is); (case c => k_is); (case k => k_is))
    case f_day_refusal => (refine' My.funG KX G ?a ?l ?c ?k; (case a => k_is); (case l => k_is); (case c => k_is); (case k => k_is))
    case f_answer_begin => (refine' My.funG KX G ?a ?l ?c ?k; (case a => k_is); (case l => k_is); (case c => k_is); (case k => k_is))
    case f_answer_quote => (refine' My.funG KX G ?a ?l ?c ?k; (case a => k_is); (case l => k_is); (case c => k_is); (case k => k_is))
    case f_answer_order => (refine' My.funG KX G ?a ?l ?c ?k; (case a => k_is); (case l => k_is); (case c => k_is); (case k => k_is))
    case f_answer_close => (refine' My.funG KX G ?a ?l ?c ?k; (case a => k_is); (case l => k_is); (case c => k_is); (case k => k_is))
    case f_answer_fix => (refine' My.funG KX G ?a ?l ?c ?k; (case a => k_is); (case l => k_is); (case c => k_is); (case k => k_is))
    case f_answer_putright => (refine' My.funG KX G ?a ?l ?c ?k; (case a => k_is); (case l => k_is); (case c => k_is); (case k => k_is))
    case f_answer_day => (refine' My.funG KX G ?a ?l ?c ?k; (case a => k_is); (case l => k_is); (case c => k_is); (case k => k_is))
    case f_answer_right => (refine' My.funG KX G ?a ?l ?c ?k; (case a => k_is); (case l => k_is); (case c => k_is); (case k => k_is))
    case f_answer_outcome => (refine' My.funG KX G ?a ?l ?c ?k; (case a => k_is); (case l => k_is); (case c => k_is); (case k => k_is))
    case f_answer_holder => (refine' My.funG KX G ?a ?l ?c ?k; (case a => k_is); (case l => k_is); (case c => k_is); (case k => k_is))
    case f_book_answer => (refine' My.funG KX G ?a ?l ?c ?k; (case a => k_is); (case l => k_is); (case c => k_is); (case k => k_is))
    case f_answer_book => (refine' My.funG KX G ?a ?l ?c ?k; (case a => k_is); (case l => k_is); (case c => k_is); (case k => k_is))
    case f_answer_rightbook => (refine' My.funG KX G ?a ?l ?c ?k; (case a => k_is); (case l => k_is); (case c => k_is); (case k => k_is))
    case f_answer_owed => (refine' My.funG KX G ?a ?l ?c ?k; (case a => k_is); (case l => k_is); (case c => k_is); (case k => k_is))
    case f_answer_wrongs => (refine' My.funG KX G ?a ?l ?c ?k; (case a => k_is); (case l => k_is); (case c => k_is); (case k => k_is))
    case f_answer_counts => (refine' My.funG KX G ?a ?l ?c ?k; (case a => k_is); (case l => k_is); (case c => k_is); (case k => k_is))
    case f_CallReader => (refine' My.funI KX G ?n ?a ?i ?l ?c ?k ?mk ?kc; (case n => k_is); (case a => k_is); (case i => k_is); (case l => k_is); (case c => k_is); (case k => k_is); (case mk => k_is); (case kc => k_is))
    case f_CallReader_at_end => (refine' My.funM ?a ?i ?l ?c ?k; (case a => k_is); (case i => k_is); (case l => k_is); (case c => k_is); (case k => k_is))
    case f_CallReader_take_number => (refine' My.funM ?a ?i ?l ?c ?k; (case a => k_is); (case i => k_is); (case l => k_is); (case c => k_is); (case k => k_is))
    case f_CallReader_take_several => (refine' My.funM ?a ?i ?l ?c ?k; (case a => k_is); (case i => k_is); (case l => k_is); (case c => k_is); (case k => k_is))
    case f_CallReader_take_row => (refine' My.funM ?a ?i ?l ?c ?k; (case a => k_is); (case i => k_is); (case l => k_is); (case c => k_is); (case k => k_is))
    case f_answers => (refine' My.funG KX G ?a ?l ?c ?k; (case a => k_is); (case l => k_is); (case c => k_is); (case k => k_is))
    case tb =>
      refine' My.tabG KX G ?n ?l ?r0 ?r1 ?r2 ?r3 ?r4 ?r5 ?r6 ?r7 ?r8 ?r9 ?r10 ?r11 ?r12 ?r13 ?r14
      case n => k_is
      case l => k_is
      case r0 => (refine' My.rowG KX G ?l ?a; (case l => k_is); (case a => k_is))
      case r1 => (refine' My.rowG KX G ?l ?a; (case l => k_is); (case a => k_is))
      case r2 => (refine' My.rowG KX G ?l ?a; (case l => k_is); (case a => k_is))
      case r3 => (refine' My.rowG KX G ?l ?a; (case l => k_is); (case a => k_is))
      case r4 => (refine' My.rowG KX G ?l ?a; (case l => k_is); (case a => k_is))
      case r5 => (refine' My.rowG KX G ?l ?a; (case l => k_is); (case a => k_is))
      case r6 => (refine' My.rowG KX G ?l ?a; (case l => k_is); (case a => k_is))
      case r7 => (refine' My.rowG KX G ?l ?a; (case l => k_is); (case a => k_is))
      case r8 => (refine' My.rowG KX G ?l ?a; (case l => k_is); (case a => k_is))
      case r9 => (refine' My.rowG KX G ?l ?a; (case l => k_is); (case a => k_is))
      case r10 => (refine' My.rowG KX G ?l ?a; (case l => k_is); (case a => k_is))
      case r11 => (refine' My.rowG KX G ?l ?a; (case l => k_is); (case a => k_is))
      case r12 => (refine' My.rowG KX G ?l ?a; (case l => k_is); (case a => k_is))
      case r13 => (refine' My.rowG KX G ?l ?a; (case l => k_is); (case a => k_is))
      case r14 => (refine' My.rowG KX G ?l ?a; (case l => k_is); (case a => k_is))
  case S =>
    intro K H xs a hO hwi hask hx
    cases hx with
    | cons h1 h2 =>
      cases h2
      cases h1 with
      | lst hs ha =>
        have e := L2.ints_dw a.1 _ ha
        subst e
        exact ⟨_, a.1, rfl, hs, hask, fun H' p hp => .lst (L2.SqL.of hp) (L2.dw_ints _)⟩
#print axioms PySem.Challenge.cw_pricesright_s01_answers_holds
