import PyProof.Rows.All
import Wide.All
import OpenK.AllK
import Wide.FinOn
import Lean
import PyProof.EqAt
import PyProof.EqKinds
import PyProof.TupleCall
import KE.KDictSum
import PyProof.SetRoads
import PyProof.Rows.InDataRows
import KE.KLam
import PySem.Challenge.RW_sparsesum_k07_whole_settled_in_any_order
set_option Elab.async false
set_option linter.all false
set_option maxRecDepth 100000
namespace L2
open PySem PySem.Spec PyProof.Rows

abbrev Key := Sum Int Str
def keyIs : Key → Value → Bool
  | .inl k, v => Value.isInt k v
  | .inr x, v => Value.isStrOf x v
def keyH (w : World) : Key → Int
  | .inl k => hashInt k
  | .inr x => hashStr w x
theorem keyIs_shape : ∀ {k : Key} {v : Value}, keyIs k v = true → (∃ i t, k = Sum.inl i ∧ v = Value.int i t) ∨ (∃ x t, k = Sum.inr x ∧ v = Value.str x t)
  | .inl i, v, h => by
    obtain ⟨t, e⟩ := Value.isInt_shape (k := i) (v := v) h
    exact .inl ⟨i, t, rfl, e⟩
  | .inr x, v, h => by
    obtain ⟨t, e⟩ := Value.isStrOf_shape (x := x) (v := v) h
    exact .inr ⟨x, t, rfl, e⟩
theorem keyIs_int (i : Int) (t : Tok) : keyIs (.inl i) (.int i t) = true := by simp [keyIs, Value.isInt]
theorem keyIs_str (x : Str) (t : Tok) : keyIs (.inr x) (.str x t) = true := by simp [keyIs, Value.isStrOf]
theorem key_ll (a b : Int) : decide ((Sum.inl a : Key) = Sum.inl b) = (a == b) := by
  by_cases e : a = b
  · subst e; simp
  · have h : ¬ (Sum.inl a : Key) = Sum.inl b := fun q => e (Sum.inl.inj q)
    rw [decide_eq_false h]
    exact (beq_eq_false_iff_ne.mpr e).symm
theorem key_rr (a b : Str) : decide ((Sum.inr a : Key) = Sum.inr b) = decide (a = b) := by
  by_cases e : a = b
  · subst e; simp
  · have h : ¬ (Sum.inr a : Key) = Sum.inr b := fun q => e (Sum.inr.inj q)
    rw [decide_eq_false h, decide_eq_false e]
theorem key_lr (a : Int) (b : Str) : decide ((Sum.inl a : Key) = Sum.inr b) = false := decide_eq_false (fun q => nomatch q)
theorem key_rl (a : Str) (b : Int) : decide ((Sum.inr a : Key) = Sum.inl b) = false := decide_eq_false (fun q => nomatch q)

def mixKind (prog : Program) (w : World) : PySem.KeyKind prog w Key where
  is := keyIs
  hash := keyH w
  inj := fun v a b ha hb => by
    rcases keyIs_shape ha with ⟨i, t, rfl, rfl⟩ | ⟨x, t, rfl, rfl⟩
    · rcases keyIs_shape hb with ⟨j, u, rfl, e⟩ | ⟨y, u, rfl, e⟩
      · injection e with e1 _; rw [e1]
      · exact nomatch e
    · rcases keyIs_shape hb with ⟨j, u, rfl, e⟩ | ⟨y, u, rfl, e⟩
      · exact nomatch e
      · injection e with e1 _; rw [e1]
  byValue := fun k v h => by
    rcases keyIs_shape h with ⟨i, t, rfl, rfl⟩ | ⟨x, t, rfl, rfl⟩ <;> rfl
  pyHash := fun hv h => by
    rcases keyIs_shape hv with ⟨i, t, rfl, rfl⟩ | ⟨x, t, rfl, rfl⟩
    · exact wpAny_pyHash_int h
    · exact wpAny_pyHash_str h
  eqBool := fun hu hv h => by
    rcases keyIs_shape hu with ⟨i, t, rfl, rfl⟩ | ⟨x, t, rfl, rfl⟩
    · rcases keyIs_shape hv with ⟨j, u, rfl, rfl⟩ | ⟨y, u, rfl, rfl⟩
      · rw [key_ll] at h; exact wpAny_eqBool_int h
      · rw [key_lr] at h; exact SeqAt.EqAt.int_str i t y u _ _ _ _ h
    · rcases keyIs_shape hv with ⟨j, u, rfl, rfl⟩ | ⟨y, u, rfl, rfl⟩
      · rw [key_rl] at h; exact SeqAt.EqAt.str_int x t j u _ _ _ _ h
      · rw [key_rr] at h; exact wpAny_eqBool_str h
  «strs» := fun k x t v h => by
    rcases keyIs_shape h with ⟨i, u, rfl, e⟩ | ⟨y, u, rfl, e⟩
    · exact nomatch e
    · injection e with e1 _
      subst e1
      cases v <;> rfl

theorem mixKind_is (prog : Program) (w : World) (k : Key) (v : Value) : (mixKind prog w).is k v = keyIs k v := rfl
theorem mixKind_int (prog : Program) (w : World) (i : Int) (t : Tok) : (mixKind prog w).is (.inl i) (.int i t) = true := keyIs_int i t
theorem mixKind_str (prog : Program) (w : World) (x : Str) (t : Tok) : (mixKind prog w).is (.inr x) (.str x t) = true := keyIs_str x t
end L2

namespace L2
open PySem PySem.Spec PyProof.Rows

inductive V where
  | non | bl (b : Bool) | int (i : Int) | str (x : Str) | byt (b : Array UInt8) | flt (b : UInt64) | ref (a : Addr) | ty (n : String)
  deriving DecidableEq

def RelV : V → Value → Prop
  | .non, u => u = Value.none
  | .bl b, u => u = Value.bool b
  | .int i, u => ∃ t, u = Value.int i t
  | .str x, u => ∃ t, u = Value.str x t
  | .byt b, u => ∃ t, u = Value.bytes b t
  | .flt b, u => ∃ t, u = Value.float b t
  | .ref a, u => u = Value.ref a
  | .ty n, u => u = Value.type n

abbrev Vals : List V → List Value → Prop := Paired RelV
theorem Vals.length {xs : List V} {us : List Value} (r : Vals xs us) : xs.length = us.length := Paired.length r
theorem Vals.get : ∀ {xs : List V} {us : List Value} {i : Nat} {x : V}, Vals xs us → xs[i]? = some x → ∃ u, us[i]? = some u ∧ RelV x u
  | _, _, _, _, .nil, e => by simp at e
  | _, _, 0, _, .cons r _, e => by simp at e; subst e; exact ⟨_, rfl, r⟩
  | _, _, i + 1, x, .cons _ t, e => by
    obtain ⟨u, h1, h2⟩ := Vals.get (i := i) (x := x) t (by simpa using e)
    exact ⟨u, by simpa using h1, h2⟩
theorem Vals.set {x : V} {u : Value} (r : RelV x u) : ∀ {xs : List V} {us : List Value} (i : Nat), Vals xs us → Vals (xs.set i x) (us.set i u)
  | _, _, _, .nil => .nil
  | _, _, 0, .cons _ t => .cons r t
  | _, _, i + 1, .cons q t => .cons q (Vals.set r i t)
theorem Vals.append : ∀ {xs ys : List V} {us ws : List Value}, Vals xs us → Vals ys ws → Vals (xs ++ ys) (us ++ ws)
  | _, _, _, _, .nil, s => s
  | _, _, _, _, .cons r t, s => .cons r (Vals.append t s)
theorem Vals.take : ∀ {xs : List V} {us : List Value} (n : Nat), Vals xs us → Vals (xs.take n) (us.take n)
  | _, _, 0, _ => .nil
  | _, _, _ + 1, .nil => .nil
  | _, _, n + 1, .cons r t => .cons r (Vals.take n t)
theorem Vals.drop : ∀ {xs : List V} {us : List Value} (n : Nat), Vals xs us → Vals (xs.drop n) (us.drop n)
  | _, _, 0, r => r
  | _, _, _ + 1, .nil => .nil
  | _, _, n + 1, .cons _ t => Vals.drop n t
theorem Vals.none_of : ∀ {xs : List V} {us : List Value} {i : Nat}, Vals xs us → xs[i]? = none → us[i]? = none := fun {xs us i} r e => by
  have h1 := r.length
  have h2 : xs.length ≤ i := List.getElem?_eq_none_iff.mp e
  exact List.getElem?_eq_none_iff.mpr (by omega)

def RelO : Option V → Option Value → Prop
  | some v, some u => RelV v u
  | none, none => True
  | _, _ => False
def KV {κ : Type} : List (κ × V) → List (κ × Value) → Prop := Paired fun (p : κ × V) (q : κ × Value) => p.1 = q.1 ∧ RelV p.2 q.2

def kV : Key → V
  | .inl i => .int i
  | .inr x => .str x

inductive HO where
    | lst (xs : List V)
    | tup (xs : List V)
    | dK (kvs : List (Key × V)) | dT (kvs : List (List Key × V))
    | set (S : Int → Bool) (n : Nat)
    | ins (C dx : Addr) (fs : List (Str × V))
    | own (x : Addr)
    | xd (fs : List (Str × V))
    | met (f x : Addr)
    | rng (lo hi : Int)
    | frz (o : Obj) (u : HO)
    | tbl (ps : Array Value)
    | ext (φ : Heap → Prop)

abbrev Hp := Addr → Option HO
def upd (H : Hp) (a : Addr) (o : HO) : Hp := fun b => if b = a then some o else H b
theorem upd_same {H : Hp} {a : Addr} {o : HO} : upd H a o a = some o := by unfold upd; rw [if_pos rfl]
theorem upd_ne {H : Hp} {a b : Addr} {o : HO} (h : b ≠ a) : upd H a o b = H b := by unfold upd; rw [if_neg h]
theorem upd_upd {H : Hp} {a : Addr} {o u : HO} : upd (upd H a o) a u = upd H a u := by
  funext b; unfold upd; split <;> rfl
theorem ne_of {H : Hp} {a b : Addr} {o u : HO} (h : H a = some o) (h' : H b = some u) (d : o ≠ u) : a ≠ b := by
  intro e; subst e; rw [h] at h'; exact d (Option.some.inj h')
theorem ne_of_none {H : Hp} {a b : Addr} {o : HO} (h : H a = some o) (h' : H b = none) : a ≠ b := by
  intro e; subst e; rw [h] at h'; cases h'

section
variable (P : Program) (w : World)
def ObjOk (H : Hp) (h : Heap) (a : Addr) : HO → Prop
  | .lst xs => xs.length ≤ sizeLine ∧ ∃ (its : List Value) (n : Nat), Vals xs its ∧ h.get? a = some { cls := .type "list", data := .seq its.toArray n }
  | .tup xs => xs.length ≤ sizeLine ∧ ∃ its : List Value, Vals xs its ∧ IsTup h a its.toArray
  | .dK kvs => kvs.length ≤ sizeLine ∧ (a == sysModules) = false ∧ ∃ vs, KV kvs vs ∧ h.DictOf (mixKind P w) a vs
  | .dT kvs => kvs.length ≤ sizeLine ∧ (a == sysModules) = false ∧ ∃ xs : List (List Key × Addr × Value),
      Paired (fun (p : List Key × V) (q : List Key × Addr × Value) => p.1 = q.1 ∧ H q.2.1 = some (.tup (p.1.map kV)) ∧ RelV p.2 q.2.2) kvs xs ∧
      ∃ o es ep, h.get? a = some o ∧ o.ExactDict ∧ o.data = .dict es ep ∧ es.toList = xs.map (entryOfKey (tupleKind (mixKind P w))) ∧ (xs.map (·.1)).Nodup
  | .set S n => h.SetOf (intKind P w) a S n
  | .ins C dx fs => H dx = some (.own a) ∧ fs.length ≤ 1000 ∧ dx ≠ a ∧ h.get? a = some (PySem.W.instObj C dx) ∧
      ∃ mA, h.Ns1 dx mA ∧ (∀ f, RelO (fs.lookup f) (mA f)) ∧ PySem.Within mA (fs.map (·.1))
  | .own _ => ∃ o, h.get? a = some o
  | .xd fs => ∃ mA, h.Ns1 a mA ∧ ∀ f, RelO (fs.lookup f) (mA f)
  | .rng lo hi => ∃ t u v, h.get? a = some { cls := .type "range", data := .fields #[.int lo t, .int hi u, .int 1 v] }
  | .frz o u => h.get? a = some o ∧ ObjOk H h a u
  | .tbl ps => h.get? a = some { cls := .none, data := .fields ps }
  | .met f x => h.get? a = some (PySem.W.methodObj (.ref f) (.ref x))
  | .ext φ => φ h ∧ (∃ o, h.get? a = some o) ∧ ∀ h1 h2 : Heap, φ h1 → (∀ o, h1.get? a = some o → h2.get? a = some o) → φ h2
def HOk (H : Hp) (h : Heap) : Prop := ∀ a o, H a = some o → ObjOk P w H h a o
end

section
variable {P : Program} {w : World} {H H' : Hp} {h h' : Heap} {a : Addr} {o : HO}
theorem ObjOk.lt (x : ObjOk P w H h a o) : a < h.objs.size := by
  cases o with
  | lst xs => obtain ⟨_, _, _, _, e⟩ := x; exact Heap.lt_size e
  | tup xs => obtain ⟨_, _, _, p⟩ := x; exact p.lt
  | dK kvs => obtain ⟨_, _, _, _, o, _, _, e, _⟩ := x; exact Heap.lt_size e
  | dT kvs => obtain ⟨_, _, _, _, o, _, _, e, _⟩ := x; exact Heap.lt_size e
  | set S n => obtain ⟨o, _, _, _, e, _⟩ := x; exact Heap.lt_size e
  | ins C dx fs => obtain ⟨_, _, _, e, _⟩ := x; exact Heap.lt_size e
  | own y => obtain ⟨_, e⟩ := x; exact Heap.lt_size e
  | xd fs => obtain ⟨_, ⟨_, _, _, e, _⟩, _⟩ := x; exact Heap.lt_size e
  | rng lo hi => obtain ⟨_, _, _, e⟩ := x; exact Heap.lt_size e
  | frz ob u => obtain ⟨e, _⟩ := x; exact Heap.lt_size e
  | tbl ps => exact Heap.lt_size (show h.get? a = some _ from x)
  | met f y => exact Heap.lt_size (show h.get? a = some _ from x)
  | ext φ => obtain ⟨_, ⟨_, e⟩, _⟩ := x; exact Heap.lt_size e
theorem Paired.mapP {α β : Type} {F G : α → β → Prop} : ∀ {l₁ : List α} {l₂ : List β}, Paired F l₁ l₂ → (∀ a b, F a b → G a b) → Paired G l₁ l₂
  | _, _, .nil, _ => .nil
  | _, _, .cons r t, f => .cons (f _ _ r) (Paired.mapP t f)
theorem Paired.imp' {α β : Type} {F G : α → β → Prop} (f : ∀ a b, F a b → G a b) {l₁ : List α} {l₂ : List β} (r : Paired F l₁ l₂) : Paired G l₁ l₂ := Paired.mapP r f
theorem ObjOk.stay (x : ObjOk P w H h a o) (k : ∀ b u, (b = a ∨ H b = some (.own a)) → h.get? b = some u → h'.get? b = some u)
    (ho : ∀ b, H b = some (.own a) → H' b = some (.own a)) (ht : ∀ b xs, H b = some (.tup xs) → H' b = some (.tup xs)) : ObjOk P w H' h' a o := by
  induction o with
  | lst xs => obtain ⟨z, its, n, r, e⟩ := x; exact ⟨z, its, n, r, k _ _ (.inl rfl) e⟩
  | tup xs => obtain ⟨z, its, r, ob, e, c⟩ := x; exact ⟨z, its, r, ob, k _ _ (.inl rfl) e, c⟩
  | dK kvs => obtain ⟨z, y, vs, r, ob, es, ep, e, c⟩ := x; exact ⟨z, y, vs, r, ob, es, ep, k _ _ (.inl rfl) e, c⟩
  | dT kvs =>
    obtain ⟨z, y, xs, r, ob, es, ep, e, c⟩ := x
    exact ⟨z, y, xs, Paired.mapP r fun p q z => ⟨z.1, ht _ _ z.2.1, z.2.2⟩, ob, es, ep, k _ _ (.inl rfl) e, c⟩
  | set S n => obtain ⟨ob, es, ep, t, e, c⟩ := x; exact ⟨ob, es, ep, t, k _ _ (.inl rfl) e, c⟩
  | ins C dx fs =>
    obtain ⟨d, z, ne, e, mA, ⟨od, es, ep, e2, c⟩, r⟩ := x
    exact ⟨ho _ d, z, ne, k _ _ (.inl rfl) e, mA, ⟨od, es, ep, k _ _ (.inr d) e2, c⟩, r⟩
  | own y => obtain ⟨ob, e⟩ := x; exact ⟨ob, k _ _ (.inl rfl) e⟩
  | xd fs => obtain ⟨mA, ⟨od, es, ep, e, c⟩, r⟩ := x; exact ⟨mA, ⟨od, es, ep, k _ _ (.inl rfl) e, c⟩, r⟩
  | rng lo hi => obtain ⟨t, u, v, e⟩ := x; exact ⟨t, u, v, k _ _ (.inl rfl) e⟩
  | frz ob u ih => obtain ⟨e, q⟩ := x; exact ⟨k _ _ (.inl rfl) e, ih q⟩
  | tbl ps =>
    have e : h.get? a = some { cls := .none, data := .fields ps } := x
    show h'.get? a = some { cls := .none, data := .fields ps }
    exact k a _ (.inl rfl) e
  | met f y =>
    have e : h.get? a = some (PySem.W.methodObj (.ref f) (.ref y)) := x
    show h'.get? a = some (PySem.W.methodObj (.ref f) (.ref y))
    exact k a _ (.inl rfl) e
  | ext φ => obtain ⟨p, ⟨o, e⟩, st⟩ := x; exact ⟨st _ _ p fun o q => k _ _ (.inl rfl) q, ⟨o, k _ _ (.inl rfl) e⟩, st⟩
theorem HOk.lt (x : HOk P w H h) (e : H a = some o) : a < h.objs.size := (x a o e).lt
theorem HOk.fresh (x : HOk P w H h) (e : h.objs.size ≤ a) : H a = none := by
  cases q : H a with
  | none => rfl
  | some u => exact absurd (Nat.lt_of_lt_of_le (x.lt q) e) (Nat.lt_irrefl _)
theorem HOk.kept (x : HOk P w H h) (k : ∀ b u, h.get? b = some u → h'.get? b = some u) : HOk P w H h' := fun a o e =>
  (x a o e).stay (fun b u _ q => k b u q) (fun _ q => q) fun _ _ q => q
theorem HOk.laid (x : HOk P w H h) (k : ∀ b u, h.get? b = some u → h'.get? b = some u) (hp : h.objs.size ≤ a) (new : ObjOk P w (upd H a o) h' a o) : HOk P w (upd H a o) h' := fun b u e => by
  have hn := x.fresh hp
  by_cases hb : b = a
  · subst hb; rw [upd_same] at e; cases e; exact new
  · rw [upd_ne hb] at e
    exact (x b u e).stay (fun c v _ q => k c v q) (fun c q => by rw [upd_ne (ne_of_none q hn)]; exact q) fun c xs q => by rw [upd_ne (ne_of_none q hn)]; exact q
end

def Rd (H : Hp) (a : Addr) (u : HO) : Prop := H a = some u ∨ ∃ o, H a = some (.frz o u)
theorem Rd.of {H : Hp} {a : Addr} {u : HO} (h : H a = some u) : Rd H a u := .inl h
theorem Rd.ok {P : Program} {w : World} {H : Hp} {h : Heap} {a : Addr} {u : HO} (r : Rd H a u) (x : HOk P w H h) : ObjOk P w H h a u := by
  rcases r with r | ⟨o, r⟩
  · exact x a u r
  · obtain ⟨_, q⟩ := x a _ r
    exact q
def Mut : Option HO → Prop
  | some (.lst _) => True
  | some (.dK _) => True
  | some (.dT _) => True
  | some (.set _ _) => True
  | some (.ins _ _ _) => True
  | some (.ext _) => True
  | _ => False
section
variable {P : Program} {w : World} {H : Hp} {h h' : Heap} {x e : Addr} {o' : HO}
theorem HOk.write (ok : HOk P w H h) (mu : Mut (H x)) (he : e = x ∨ H e = some (.own x)) (k : ∀ b u, b ≠ e → h.get? b = some u → h'.get? b = some u) (heo : ∃ u, h'.get? e = some u)
    (new : ObjOk P w (upd H x o') h' x o') : HOk P w (upd H x o') h' := fun b u q => by
  have nown : ∀ c y, H c = some (.own y) → c ≠ x := fun c y r z => by subst z; rw [r] at mu; exact mu
  have ntup : ∀ c xs, H c = some (.tup xs) → c ≠ x := fun c xs r z => by subst z; rw [r] at mu; exact mu
  by_cases hb : b = x
  · subst hb; rw [upd_same] at q; cases q; exact new
  · rw [upd_ne hb] at q
    by_cases hbe : b = e
    · have q' : H b = some (.own x) := by
        rcases he with z | z
        · exact absurd (hbe.trans z) hb
        · rw [hbe]; exact z
      rw [q] at q'; cases q'
      obtain ⟨v, hv⟩ := heo
      exact ⟨v, by rw [hbe]; exact hv⟩
    · refine (ok b u q).stay (fun c v hc r => k c v ?_ r) (fun c r => by rw [upd_ne (nown c b r)]; exact r) fun c xs r => by rw [upd_ne (ntup c xs r)]; exact r
      rcases hc with rfl | hc
      · exact hbe
      · rintro rfl
        rcases he with z | z
        · exact nown c b hc z
        · rw [hc] at z; cases z; exact hb rfl
end

structure Un (fs ex : List Addr) (H H' : Hp) (h h' : Heap) : Prop where
  keep : ∀ b o, h.get? b = some o → H b = none → b ∉ fs → b ∉ ex → h'.get? b = some o
  slot : ∀ b o, h.get? b = some o → H b = none → b ∈ fs → b ∉ ex → ∃ sl, h'.get? b = some { o with slots := sl }
  free : ∀ b o, h.get? b = some o → H b = none → b ∉ ex → H' b = none
  there : ∀ b o, h.get? b = some o → b ∉ ex → ∃ o', h'.get? b = some o'
  tups : ∀ b xs, H b = some (.tup xs) → H' b = some (.tup xs)
  frzs : ∀ b o u, H b = some (.frz o u) → H' b = some (.frz o u)
  tbls : ∀ b ps, H b = some (.tbl ps) → ∃ more, H' b = some (.tbl (ps ++ more))
section
variable {fs fs' ex ex' : List Addr} {H H1 H2 : Hp} {h h1 h2 h' : Heap} {a x e : Addr} {o : HO}
theorem Un.any (u : Un fs ex H H1 h h1) {b : Addr} {ob : Obj} (q : h.get? b = some ob) (n : H b = none) (hx : b ∉ ex) : ∃ sl, h1.get? b = some { ob with slots := sl } := by
  by_cases hb : b ∈ fs
  · exact u.slot b ob q n hb hx
  · exact ⟨ob.slots, u.keep b ob q n hb hx⟩
theorem Un.trans (a : Un fs ex H H1 h h1) (b : Un fs ex H1 H2 h1 h2) : Un fs ex H H2 h h2 where
  keep := fun c ob q n hc hx => b.keep c ob (a.keep c ob q n hc hx) (a.free c ob q n hx) hc hx
  slot := fun c ob q n hc hx => by
    obtain ⟨sl, e1⟩ := a.slot c ob q n hc hx
    obtain ⟨sl', e2⟩ := b.slot c _ e1 (a.free c ob q n hx) hc hx
    exact ⟨sl', e2⟩
  free := fun c ob q n hx => by
    obtain ⟨o', e1⟩ := a.there c ob q hx
    exact b.free c o' e1 (a.free c ob q n hx) hx
  there := fun c ob q hx => by
    obtain ⟨o', e1⟩ := a.there c ob q hx
    exact b.there c o' e1 hx
  tups := fun c xs q => b.tups c xs (a.tups c xs q)
  frzs := fun c ob xs q => b.frzs c ob xs (a.frzs c ob xs q)
  tbls := fun c ps q => by
    obtain ⟨m1, e1⟩ := a.tbls c ps q
    obtain ⟨m2, e2⟩ := b.tbls c _ e1
    exact ⟨m1 ++ m2, by rw [e2, Array.append_assoc]⟩
theorem Un.kept (k : ∀ b u, h.get? b = some u → h'.get? b = some u) : Un fs ex H H h h' :=
  ⟨fun b ob q _ _ _ => k b ob q, fun b ob q _ _ _ => ⟨ob.slots, k b ob q⟩, fun _ _ _ n _ => n, fun b ob q _ => ⟨ob, k b ob q⟩, fun _ _ q => q, fun _ _ _ q => q, fun _ ps q => ⟨#[], by rw [q]; simp⟩⟩
theorem Un.refl : Un fs ex H H h h := Un.kept fun _ _ q => q
theorem Un.laid (k : ∀ b u, h.get? b = some u → h'.get? b = some u) (hp : h.objs.size ≤ a) (hn : H a = none) : Un fs ex H (upd H a o) h h' where
  keep := fun b u q _ _ _ => k b u q
  slot := fun b u q _ _ _ => ⟨u.slots, k b u q⟩
  free := fun b u q n _ => by rw [upd_ne (Nat.ne_of_lt (Nat.lt_of_lt_of_le (Heap.lt_size q) hp))]; exact n
  there := fun b u q _ => ⟨u, k b u q⟩
  tups := fun b xs q => by rw [upd_ne (ne_of_none q hn)]; exact q
  frzs := fun b u xs q => by rw [upd_ne (ne_of_none q hn)]; exact q
  tbls := fun b ps q => ⟨#[], by rw [upd_ne (ne_of_none q hn), q]; simp⟩
theorem Un.write (mu : Mut (H x)) (he : e = x ∨ H e = some (.own x)) (k : ∀ b u, b ≠ e → h.get? b = some u → h'.get? b = some u) (heo : ∃ u, h'.get? e = some u) : Un fs ex H (upd H x o) h h' := by
  have hx : ∀ b, H b = none → b ≠ x := fun b n z => by subst z; rw [n] at mu; exact mu
  have hb : ∀ b, H b = none → b ≠ e := fun b n z => by
    subst z
    rcases he with r | r
    · exact hx b n r
    · rw [n] at r; cases r
  have hm : ∀ b u, H b = some u → ¬ Mut (some u) → b ≠ x := fun b u q nm z => by subst z; rw [q] at mu; exact nm mu
  refine ⟨fun b u q n _ _ => k b u (hb b n) q, fun b u q n _ _ => ⟨u.slots, k b u (hb b n) q⟩, fun b u q n _ => by rw [upd_ne (hx b n)]; exact n, fun b u q _ => ?_,
    fun b xs q => by rw [upd_ne (hm b _ q fun z => z)]; exact q, fun b u xs q => by rw [upd_ne (hm b _ q fun z => z)]; exact q, fun b ps q => ⟨#[], by rw [upd_ne (hm b _ q fun z => z), q]; simp⟩⟩
  by_cases hbe : b = e
  · subst hbe; exact heo
  · exact ⟨u, k b u hbe q⟩
theorem Un.mono (u : Un fs ex H H1 h h1) (hs : ∀ b ∈ fs, b ∈ fs') (hx : ∀ b ∈ ex, b ∈ ex') : Un fs' ex' H H1 h h1 :=
  ⟨fun b ob q n hb he => u.keep b ob q n (fun z => hb (hs b z)) fun z => he (hx b z), fun _ _ q n _ he => u.any q n fun z => he (hx _ z), fun b ob q n he => u.free b ob q n fun z => he (hx b z), fun b ob q he => u.there b ob q fun z => he (hx b z), u.tups, u.frzs, u.tbls⟩
end

def trk (h : Heap) (H : Hp) : List Addr := (List.range h.objs.size).filter fun a => (H a).isSome
def hidT (h : Heap) (H : Hp) : Heap := PySem.W.hideAll h (trk h H)
theorem hidT_size (h : Heap) (H : Hp) : (hidT h H).objs.size = h.objs.size := PySem.W.hideAll_size _ _
theorem hidT_get {h : Heap} {H : Hp} {b : Addr} {o : Obj} (e : h.get? b = some o) (n : H b = none) : (hidT h H).get? b = some o :=
  PySem.W.hideAll_get _ e fun hm => by
    have q : (H b).isSome = true := (List.mem_filter.mp hm).2
    rw [n] at q; simp at q
theorem of_hidT {h : Heap} {H : Hp} {b : Addr} {o : Obj} (e : (hidT h H).get? b = some o) : h.get? b = some o ∧ H b = none := by
  have e' : h.get? b = some o := PySem.W.of_hideAll (trk h H) e
  refine ⟨e', ?_⟩
  cases q : H b with
  | none => rfl
  | some x =>
    have hm : b ∈ trk h H := List.mem_filter.mpr ⟨List.mem_range.mpr (Heap.lt_size e'), by simp [q]⟩
    have z : (hidT h H).get? b = none := PySem.W.hideAll_none (trk h H) hm
    rw [z] at e; cases e

def allNews (g h : Heap) (L : Addr) : List (Addr × Obj) := (List.range h.objs.size).filterMap fun a => if a = L ∨ (g.get? a).isSome = true then none else (h.get? a).map fun o => (a, o)
theorem mem_allNews {g h : Heap} {L a : Addr} {o : Obj} (h1 : a ≠ L) (h2 : g.get? a = none) (h3 : h.get? a = some o) : (a, o) ∈ allNews g h L :=
  List.mem_filterMap.mpr ⟨a, List.mem_range.mpr (Heap.lt_size h3), by simp [h1, h2, h3]⟩
theorem of_mem_allNews {g h : Heap} {L : Addr} {p : Addr × Obj} (hp : p ∈ allNews g h L) : p.1 ≠ L ∧ g.get? p.1 = none ∧ h.get? p.1 = some p.2 := by
  obtain ⟨b, _, e⟩ := List.mem_filterMap.mp hp
  split at e
  · cases e
  · rename_i hn
    cases q : h.get? b with
    | none => rw [q] at e; simp at e
    | some u =>
      rw [q] at e
      simp only [Option.map_some, Option.some.injEq] at e
      subst e
      refine ⟨fun z => hn (.inl z), ?_, q⟩
      show g.get? b = none
      cases r : g.get? b with
      | none => rfl
      | some v => exact (hn (.inr (by simp [r]))).elim
def rest (g h : Heap) (L d : Addr) : List (Addr × Obj) := (allNews g h L).filter fun p => decide (p.1 ≠ d)
theorem rest_ne {g h : Heap} {L d : Addr} : ∀ p ∈ rest g h L d, p.1 ≠ d := fun p hp => of_decide_eq_true (List.mem_filter.mp hp).2
theorem mem_rest {g h : Heap} {L d a : Addr} {o : Obj} (h1 : a ≠ L) (h2 : g.get? a = none) (h3 : h.get? a = some o) (h4 : a ≠ d) : (a, o) ∈ rest g h L d :=
  List.mem_filter.mpr ⟨mem_allNews h1 h2 h3, decide_eq_true h4⟩
theorem news_all {g h : Heap} {L : Addr} : News g L h (allNews g h L) := fun p hp => let ⟨a, b, c⟩ := of_mem_allNews hp; ⟨c, a, b⟩
theorem news_at {g h : Heap} {L d : Addr} {o : Obj} (h1 : d ≠ L) (h2 : g.get? d = none) (h3 : h.get? d = some o) : News g L h ((d, o) :: rest g h L d) := fun p hp => by
  rcases List.mem_cons.mp hp with rfl | hp
  · exact ⟨h3, h1, h2⟩
  · exact news_all p (List.mem_filter.mp hp).1
theorem kept_of_news {g h h' : Heap} {L d : Addr} {m : Str → Option Value} (k : ∀ b o, g.get? b = some o → h.get? b = some o) (F : Fr g L h' m) (N : News g L h' (rest g h L d)) :
    ∀ b o, b ≠ L → b ≠ d → h.get? b = some o → h'.get? b = some o := fun b o h1 h2 e => by
  cases q : g.get? b with
  | some u =>
    have := k b u q
    rw [e] at this; cases this
    exact F.keep b _ q
  | none => exact (N (b, o) (mem_rest h1 q e h2)).1
end L2

namespace L2
open PySem PySem.Spec PyProof.Rows

structure Mod (K : PySem.W.Frag) (mg : Str → Option Value) (base : Heap) : Prop where
  kin : K.In base
  glob : base.Ns mainGlobals mg
  blt : ∃ mb, base.Ns builtinsNs mb ∧ ∀ x : Str, x ≠ "__name__" → mb x = bootBuiltins x
  nolimit : base.NoLimit

structure Cx where
  prog : Program
  w : World
  K : PySem.W.Frag
  mg : Str → Option Value
  base : Heap
  A : Around
  N : List Str
  s₀ : Shared
  H₀ : Hp
  env : Env
  outer : List Env
  stack : List Env
  ex : List Addr
  fn : Str → Bool
  calm : Bool
  pn : List (Addr × Obj)
  xe : Value → Shared → Prop
def frs (l : List Env) : List Addr := l.filterMap (·.frame)
abbrev Cx.fs (X : Cx) : List Addr := frs X.outer

def Vis (sc : Scope) (x : Str) : Prop := sc.names.lookup x = some .local ∨ sc.names.lookup x = some .cell ∨ sc.names.lookup x = some .free
def Loc (sc : Scope) (x : Str) : Prop := sc.names.lookup x = some .local ∨ sc.names.lookup x = some .cell
def Look (env : Env) (h : Heap) (m : Str → Option Value) (x : Str) (u : Value) : Prop :=
  (env.kindOf x = some .local ∧ m x = some u) ∨ ((env.kindOf x = some .cell ∨ env.kindOf x = some .free) ∧ ∃ c, env.cells.lookup x = some c ∧ h.IsCell c (some u))

structure Cx.Ok (X : Cx) : Prop where
  mod : Mod X.K X.mg X.base
  kind : X.env.scope.kind = .function
  glob : X.env.globals = mainGlobals
  blt : X.env.builtins = builtinsNs
  above : X.s₀.heap.objs.size ≤ X.env.locals
  inj : ∀ x y c, X.env.cells.lookup x = some c → X.env.cells.lookup y = some c → x = y
  has : ∀ x, (X.env.kindOf x = some .cell ∨ X.env.kindOf x = some .free) → ∃ c, X.env.cells.lookup x = some c
  cab : ∀ x c, X.fn x = true → X.env.cells.lookup x = some c → X.s₀.heap.objs.size ≤ c
  hd : X.calm = true → X.A.handled = none
  frames : X.A.frames = some X.stack
  stk : X.stack = X.outer ∨ (X.stack = X.env :: X.outer ∧ X.env.frame = some X.env.locals)
  exf : ∀ b ∈ X.ex, b ≠ X.env.locals ∧ ∀ x c, X.env.cells.lookup x = some c → c ≠ b
  bs : ∀ b o, X.base.get? b = some o → X.s₀.heap.get? b = some o ∧ X.H₀ b = none
  bsz : X.base.objs.size ≤ X.s₀.heap.objs.size
  noex : ∀ b o, X.base.get? b = some o → b ∉ X.ex
  exfs : ∀ b ∈ X.ex, b ∉ X.fs
  funs : X.s₀.heap.FunFrames X.base X.outer
  frf : ∀ b ∈ X.fs, X.H₀ b = none

structure Inv (X : Cx) (pins : List (Addr × Obj)) (σ : List (Option V)) (H : Hp) (s : Shared) : Prop where
  ok : X.Ok
  os : s.os = X.s₀.os
  bare : AllBare s.gens
  base : Un X.fs X.ex X.H₀ H X.s₀.heap s.heap
  loc : ∃ m, s.heap.Ns X.env.locals m ∧ ∀ (i : Nat) (x : Str) (v : V), X.N[i]? = some x → σ[i]? = some (some v) → Vis X.env.scope x → ∃ u, RelV v u ∧ Look X.env s.heap m x u
  cell : ∀ x c, X.env.cells.lookup x = some c → ∃ v, s.heap.IsCell c v
  free : H X.env.locals = none
  freeC : ∀ x c, X.env.cells.lookup x = some c → H c = none
  pin : ∀ p ∈ X.pn ++ pins, s.heap.get? p.1 = some p.2 ∧ H p.1 = none ∧ p.1 ≠ X.env.locals ∧ p.1 ∉ X.fs ∧ ∀ v, p.2.data ≠ .cell v
  hok : HOk X.prog X.w H s.heap
  len : σ.length = X.N.length

section
variable {X : Cx} {pins : List (Addr × Obj)} {σ : List (Option V)} {H H' : Hp} {s : Shared} {h' : Heap}

theorem Cx.Ok.nofr (ok : X.Ok) {b : Addr} {o : Obj} (e : X.base.get? b = some o) : b ∉ X.fs := fun hb => by
  have := (ok.funs.mem hb).1
  rw [e] at this; cases this
theorem Inv.bs (I : Inv X pins σ H s) : ∀ b o, X.base.get? b = some o → s.heap.get? b = some o ∧ H b = none := fun b o e =>
  ⟨I.base.keep b o (I.ok.bs b o e).1 (I.ok.bs b o e).2 (I.ok.nofr e) (I.ok.noex b o e), I.base.free b o (I.ok.bs b o e).1 (I.ok.bs b o e).2 (I.ok.noex b o e)⟩
theorem Inv.bk (I : Inv X pins σ H s) : ∀ b o, X.base.get? b = some o → s.heap.get? b = some o := fun b o e => (I.bs b o e).1
theorem Inv.mod (I : Inv X pins σ H s) : Mod X.K X.mg X.base := I.ok.mod
theorem Inv.kIn (I : Inv X pins σ H s) : X.K.In s.heap := I.ok.mod.kin.keeps I.bk
theorem Inv.nolimit (I : Inv X pins σ H s) : s.heap.NoLimit := I.ok.mod.nolimit.keeps I.bk
theorem Inv.fr (I : Inv X pins σ H s) : ∃ m, Fr X.base X.env.locals s.heap m :=
  let ⟨m, hn, _⟩ := I.loc
  ⟨m, hn, I.bk, Nat.le_trans I.ok.bsz I.ok.above⟩
theorem Inv.lt (I : Inv X pins σ H s) : X.env.locals < s.heap.objs.size := let ⟨_, hn, _⟩ := I.loc; hn.lt
theorem Inv.sz (I : Inv X pins σ H s) : X.s₀.heap.objs.size ≤ s.heap.objs.size := Nat.le_trans I.ok.above (Nat.le_of_lt I.lt)
theorem Inv.nofs (I : Inv X pins σ H s) {a : Addr} (h : s.heap.objs.size ≤ a) : a ∉ X.fs := fun hb => by
  obtain ⟨_, o, ho, _⟩ := I.ok.funs.mem hb
  exact absurd (Nat.lt_of_lt_of_le (Heap.lt_size ho) (Nat.le_trans I.sz h)) (Nat.lt_irrefl _)
theorem Inv.cne (I : Inv X pins σ H s) : ∀ x c, X.env.cells.lookup x = some c → c ≠ X.env.locals := fun x c e z => by
  obtain ⟨v, o, ho, hd⟩ := I.cell x c e
  obtain ⟨m, ⟨o', es, ep, ho', hd', _⟩, _⟩ := I.loc
  rw [z, ho'] at ho; cases ho; rw [hd'] at hd; cases hd
theorem Inv.funs (I : Inv X pins σ H s) : s.heap.FunFrames X.base X.outer := by
  have all : ∀ (l : List Env), (∀ b ∈ frs l, b ∈ X.fs) → X.s₀.heap.FunFrames X.base l → s.heap.FunFrames X.base l := by
    intro l
    induction l with
    | nil => intro _ _; trivial
    | cons env r ih =>
      intro hs hl
      obtain ⟨hk, ⟨L, o, hf, hn, ho, hd⟩, hr⟩ := hl
      have hL : L ∈ X.fs := hs L (by unfold frs; rw [List.filterMap_cons, hf]; exact List.mem_cons_self)
      obtain ⟨sl, e⟩ := I.base.slot L o ho (I.ok.frf L hL) hL fun z => I.ok.exfs L z hL
      exact ⟨hk, ⟨L, _, hf, hn, e, hd⟩, ih (fun b hb => hs b (by unfold frs; rw [List.filterMap_cons, hf]; exact List.mem_cons_of_mem _ hb)) hr⟩
  exact all X.outer (fun _ hb => hb) I.ok.funs

theorem Inv.stack (I : Inv X pins σ H s) : s.heap.FunFrames X.base X.stack := by
  rcases I.ok.stk with e | ⟨e, hf⟩
  · rw [e]; exact I.funs
  · rw [e]
    obtain ⟨m, hn, _⟩ := I.loc
    refine .cons (by rw [I.ok.kind]; decide) hf hn ?_ I.funs
    exact Heap.get?_none_of_le (Nat.le_trans I.ok.bsz I.ok.above)
theorem Inv.stkSub (I : Inv X pins σ H s) : ∀ b ∈ frs X.stack, b ∈ X.env.locals :: X.fs := fun b hb => by
  rcases I.ok.stk with e | ⟨e, hf⟩
  · rw [e] at hb; exact List.mem_cons_of_mem _ hb
  · rw [e] at hb
    unfold frs at hb
    rw [List.filterMap_cons, hf] at hb
    exact hb
theorem Inv.stkFree (I : Inv X pins σ H s) : ∀ b ∈ frs X.stack, H b = none := fun b hb => by
  rcases List.mem_cons.mp (I.stkSub b hb) with e | hb
  · rw [e]; exact I.free
  · obtain ⟨_, o, ho, _⟩ := I.ok.funs.mem hb
    exact I.base.free b o ho (I.ok.frf b hb) fun z => I.ok.exfs b z hb

theorem Inv.step {g' : Array GenState} {t' : Nat} {d' : Drawn} {ch : List Addr} (I : Inv X pins σ H s)
    (hch : ∀ b ∈ ch, (b ∈ X.ex ∨ X.s₀.heap.objs.size ≤ b) ∧ b ≠ X.env.locals ∧ (∀ x c, X.env.cells.lookup x = some c → c ≠ b) ∧ ∀ p ∈ X.pn ++ pins, p.1 ≠ b)
    (keep : ∀ b o, b ≠ X.env.locals → b ∉ X.fs → b ∉ ch → s.heap.get? b = some o → H b = none → h'.get? b = some o)
    (slot : ∀ b o, b ≠ X.env.locals → b ∈ X.fs → b ∉ ch → s.heap.get? b = some o → H b = none → ∃ sl, h'.get? b = some { o with slots := sl }) (free : ∀ b o, b ∉ ch → s.heap.get? b = some o → H b = none → H' b = none)
    (there : ∀ b o, b ∉ ch → s.heap.get? b = some o → ∃ o', h'.get? b = some o')
    (tups : ∀ b xs, H b = some (.tup xs) → H' b = some (.tup xs)) (frzs : ∀ b o u, H b = some (.frz o u) → H' b = some (.frz o u)) (tbls : ∀ b ps, H b = some (.tbl ps) → ∃ more, H' b = some (.tbl (ps ++ more)))
    (ns : ∀ m, s.heap.Ns X.env.locals m → h'.Ns X.env.locals m) (hok : HOk X.prog X.w H' h') (hg : AllBare g') :
    Inv X pins σ H' { s with heap := h', gens := g', drawn := d', toks := t' } := by
  have neL : ∀ b o, X.s₀.heap.get? b = some o → b ≠ X.env.locals := fun b o e => Nat.ne_of_lt (Nat.lt_of_lt_of_le (Heap.lt_size e) I.ok.above)
  have neC : ∀ b o, X.s₀.heap.get? b = some o → b ∉ X.ex → b ∉ ch := fun b o e hx hb => by
    rcases (hch b hb).1 with z | z
    · exact hx z
    · exact absurd (Nat.lt_of_lt_of_le (Heap.lt_size e) z) (Nat.lt_irrefl _)
  have cellK : ∀ x c, X.env.cells.lookup x = some c → ∀ v, s.heap.IsCell c v → h'.IsCell c v := fun x c e v ⟨o, ho, hd⟩ => by
    have nch : c ∉ ch := fun z => (hch c z).2.2.1 x c e rfl
    by_cases hc : c ∈ X.fs
    · obtain ⟨sl, q⟩ := slot c o (I.cne x c e) hc nch ho (I.freeC x c e)
      exact ⟨_, q, hd⟩
    · exact ⟨o, keep c o (I.cne x c e) hc nch ho (I.freeC x c e), hd⟩
  refine ⟨I.ok, I.os, hg, ⟨fun b o e n hb hx => ?_, fun b o e n hb hx => ?_, fun b o e n hx => ?_, fun b o e hx => ?_, fun b xs e => tups b xs (I.base.tups b xs e), fun b o xs e => frzs b o xs (I.base.frzs b o xs e), fun b ps e => ?_⟩, ?_, fun x c e => ?_, ?_, fun x c e => ?_, fun p hp => ?_, hok, I.len⟩
  · exact keep b o (neL b o e) hb (neC b o e hx) (I.base.keep b o e n hb hx) (I.base.free b o e n hx)
  · obtain ⟨sl, e1⟩ := I.base.slot b o e n hb hx
    obtain ⟨sl', e2⟩ := slot b _ (neL b o e) hb (neC b o e hx) e1 (I.base.free b o e n hx)
    exact ⟨sl', e2⟩
  · obtain ⟨o', e1⟩ := I.base.there b o e hx
    exact free b o' (neC b o e hx) e1 (I.base.free b o e n hx)
  · obtain ⟨o', e1⟩ := I.base.there b o e hx
    exact there b o' (neC b o e hx) e1
  · obtain ⟨m1, e1⟩ := I.base.tbls b ps e
    obtain ⟨m2, e2⟩ := tbls b _ e1
    exact ⟨m1 ++ m2, by rw [e2, Array.append_assoc]⟩
  · obtain ⟨m, hn, hl⟩ := I.loc
    refine ⟨m, ns m hn, fun i x v e1 e2 e3 => ?_⟩
    obtain ⟨u, r, l⟩ := hl i x v e1 e2 e3
    refine ⟨u, r, ?_⟩
    rcases l with l | ⟨k, c, e, z⟩
    · exact .inl l
    · exact .inr ⟨k, c, e, cellK x c e _ z⟩
  · obtain ⟨v, z⟩ := I.cell x c e
    exact ⟨v, cellK x c e v z⟩
  · obtain ⟨m, ⟨o, _, _, ho, _⟩, _⟩ := I.loc
    exact free _ o (fun z => (hch _ z).2.1 rfl) ho I.free
  · obtain ⟨v, o, ho, hd⟩ := I.cell x c e
    exact free c o (fun z => (hch c z).2.2.1 x c e rfl) ho (I.freeC x c e)
  · obtain ⟨e, n, ne, nf, d⟩ := I.pin p hp
    have nch : p.1 ∉ ch := fun z => (hch p.1 z).2.2.2 p hp rfl
    exact ⟨keep p.1 p.2 ne nf nch e n, free p.1 p.2 nch e n, ne, nf, d⟩
theorem Inv.un {t' : Nat} (I : Inv X pins σ H s) (u : Un X.fs [] H H' s.heap h') (hok : HOk X.prog X.w H' h') : Inv X pins σ H' { s with heap := h', toks := t' } := by
  obtain ⟨m, ⟨o, es, ep, ho, r⟩, _⟩ := id I.loc
  obtain ⟨sl, hL⟩ := u.any ho I.free (by simp)
  exact I.step (g' := s.gens) (d' := s.drawn) (ch := []) (fun _ z => nomatch z) (fun b o _ hb _ e n => u.keep b o e n hb (by simp)) (fun b o _ hb _ e n => u.slot b o e n hb (by simp)) (fun b o _ e n => u.free b o e n (by simp)) (fun b o _ e => u.there b o e (by simp)) u.tups u.frzs u.tbls (fun m' hm => by
    obtain ⟨o', es', ep', ho', r'⟩ := hm
    rw [ho] at ho'; cases ho'
    exact ⟨_, es', ep', hL, r'⟩) hok I.bare
theorem Inv.call {g' : Array GenState} {t' : Nat} {d' : Drawn} {ch : List Addr} (I : Inv X pins σ H s) (u : Un (frs X.stack) ch H H' s.heap h') (hok : HOk X.prog X.w H' h') (hg : AllBare g')
    (hch : ∀ b ∈ ch, (b ∈ X.ex ∨ X.s₀.heap.objs.size ≤ b) ∧ b ≠ X.env.locals ∧ (∀ x c, X.env.cells.lookup x = some c → c ≠ b) ∧ ∀ p ∈ X.pn ++ pins, p.1 ≠ b) :
    Inv X pins σ H' { s with heap := h', gens := g', drawn := d', toks := t' } := by
  obtain ⟨m, ⟨o, es, ep, ho, r⟩, _⟩ := id I.loc
  obtain ⟨sl, hL⟩ := u.any ho I.free fun z => (hch _ z).2.1 rfl
  exact I.step (ch := ch) hch (fun b o hL hb hc e n => u.keep b o e n (fun z => (List.mem_cons.mp (I.stkSub b z)).elim hL hb) hc) (fun b o _ _ hc e n => u.any e n hc) (fun b o hc e n => u.free b o e n hc) (fun b o hc e => u.there b o e hc) u.tups u.frzs u.tbls (fun m' hm => by
    obtain ⟨o', es', ep', ho', r'⟩ := hm
    rw [ho] at ho'; cases ho'
    exact ⟨_, es', ep', hL, r'⟩) hok hg
theorem Inv.turned {t' : Nat} {it : Addr} (I : Inv X pins σ H s) (k : ∀ b o, b ≠ it → s.heap.get? b = some o → h'.get? b = some o) (hn : H it = none) (hL : it ≠ X.env.locals)
    (h1 : it ∈ X.ex ∨ X.s₀.heap.objs.size ≤ it) (h2 : ∀ x c, X.env.cells.lookup x = some c → c ≠ it) (h3 : ∀ p ∈ X.pn ++ pins, p.1 ≠ it) : Inv X pins σ H { s with heap := h', toks := t' } := by
  have nit : ∀ b u, H b = some u → b ≠ it := fun b u e z => by rw [z, hn] at e; cases e
  refine I.step (g' := s.gens) (d' := s.drawn) (ch := [it]) (fun b hb => ?_) (fun b o _ _ hc e _ => k b o (fun z => hc (by simp [z])) e) (fun b o _ _ hc e _ => ⟨o.slots, k b o (fun z => hc (by simp [z])) e⟩) (fun _ _ _ _ n => n)
    (fun b o hc e => ⟨o, k b o (fun z => hc (by simp [z])) e⟩) (fun _ _ e => e) (fun _ _ _ e => e) (fun b ps e => ⟨#[], by rw [e]; simp⟩) (fun m hm => ?_) (fun b u e => ?_) I.bare
  · have e : b = it := by simpa using hb
    subst e
    exact ⟨h1, hL, h2, h3⟩
  · obtain ⟨o, es, ep, ho, r⟩ := hm
    exact ⟨o, es, ep, k _ o (Ne.symm hL) ho, r⟩
  · refine (I.hok b u e).stay (fun c v hc q => k c v ?_ q) (fun _ q => q) fun _ _ q => q
    rcases hc with z | z
    · rw [z]; exact nit b u e
    · exact nit c _ z
theorem Inv.tok (I : Inv X pins σ H s) (t : Nat) : Inv X pins σ H { s with toks := t } := I.un (h' := s.heap) (t' := t) Un.refl I.hok
theorem Inv.kept {t' : Nat} (I : Inv X pins σ H s) (k : ∀ b u, s.heap.get? b = some u → h'.get? b = some u) : Inv X pins σ H { s with heap := h', toks := t' } := I.un (Un.kept k) (I.hok.kept k)
theorem Inv.laid {a : Addr} {o : HO} {t' : Nat} (I : Inv X pins σ H s) (k : ∀ b u, s.heap.get? b = some u → h'.get? b = some u) (hp : s.heap.objs.size ≤ a) (new : ObjOk X.prog X.w (upd H a o) h' a o) :
    Inv X pins σ (upd H a o) { s with heap := h', toks := t' } := I.un (Un.laid k hp (I.hok.fresh hp)) (I.hok.laid k hp new)
theorem Inv.write {x e : Addr} {o : HO} {t' : Nat} (I : Inv X pins σ H s) (mu : Mut (H x)) (he : e = x ∨ H e = some (.own x)) (k : ∀ b u, b ≠ e → s.heap.get? b = some u → h'.get? b = some u) (heo : ∃ u, h'.get? e = some u)
    (new : ObjOk X.prog X.w (upd H x o) h' x o) : Inv X pins σ (upd H x o) { s with heap := h', toks := t' } := I.un (Un.write mu he k heo) (I.hok.write mu he k heo new)
theorem Inv.weak {σ' : List (Option V)} (I : Inv X pins σ H s) (hl : σ'.length = σ.length) (w : ∀ (i : Nat) v, σ'[i]? = some (some v) → σ[i]? = some (some v)) : Inv X pins σ' H s :=
  ⟨I.ok, I.os, I.bare, I.base, let ⟨m, hn, hl'⟩ := I.loc; ⟨m, hn, fun i x v e1 e2 e3 => hl' i x v e1 (w i v e2) e3⟩, I.cell, I.free, I.freeC, I.pin, I.hok, hl.trans I.len⟩
theorem Inv.pins_of {pins' : List (Addr × Obj)} (I : Inv X pins σ H s) (h : ∀ p ∈ pins', s.heap.get? p.1 = some p.2 ∧ H p.1 = none ∧ p.1 ≠ X.env.locals ∧ p.1 ∉ X.fs ∧ ∀ v, p.2.data ≠ .cell v) : Inv X pins' σ H s :=
  ⟨I.ok, I.os, I.bare, I.base, I.loc, I.cell, I.free, I.freeC, fun p hp => (List.mem_append.mp hp).elim (fun z => I.pin p (List.mem_append_left _ z)) (h p), I.hok, I.len⟩

theorem nodup_ix {N : List Str} (hN : N.Nodup) {i j : Nat} {x : Str} (a : N[i]? = some x) (b : N[j]? = some x) : i = j := by
  obtain ⟨h1, e1⟩ := List.getElem?_eq_some_iff.mp a
  obtain ⟨h2, e2⟩ := List.getElem?_eq_some_iff.mp b
  exact (List.getElem_inj hN).mp (e1.trans e2.symm)

theorem store_ok2 {M : Model} {A : Around} {E : Value → Shared → Prop} {i : Nat} {x : Str} {v : V} {u : Value} {Q : Unit → Shared → Prop} (I : Inv X pins σ H s) (hN : X.N.Nodup) (hi : X.N[i]? = some x) (hx : Loc X.env.scope x) (r : RelV v u)
    (h : ∀ s', Inv X pins (σ.set i (some v)) H s' → (∃ a, Heap.SameBut a s.heap s'.heap ∧ (a = X.env.locals ∨ X.env.cells.lookup x = some a)) → Q () s') (hf : X.fn x = true ∨ X.env.scope.names.lookup x = some .local := by first | exact .inl rfl | exact .inr rfl | assumption) : wpAny M A (storeName X.env x u) Q E s := by
  obtain ⟨m, hn, hl⟩ := id I.loc
  have hcls : (X.env.scope.kind == .class || (X.env.scope.kind == .module && X.env.locals != X.env.globals)) = false := by rw [I.ok.kind]; rfl
  have hiσ : i < σ.length := by rw [I.len]; exact (List.getElem?_eq_some_iff.mp hi).1
  have cne := I.cne
  have tracked : ∀ {a : Addr} {h' : Heap}, (∃ o, s.heap.get? a = some o ∧ H a = none) → Heap.SameBut a s.heap h' → HOk X.prog X.w H h' := fun {a h'} ha hs b ob e => by
    obtain ⟨_, _, hfree⟩ := ha
    refine (I.hok b ob e).stay (fun c w' hc q => (hs.2 c ?_).trans q) (fun _ q => q) fun _ _ q => q
    rintro rfl
    rcases hc with rfl | hc
    · rw [hfree] at e; cases e
    · rw [hfree] at hc; cases hc
  rcases hx with hk | hk
  · refine wpAny_storeName_local hk hn (fun h' hn' hs => ?_) hcls
    obtain ⟨oL, _, _, hoL, _⟩ := id hn
    refine h _ ⟨I.ok, I.os, I.bare, ⟨fun b o e n hb hx => ?_, fun b o e n hb hx => ?_, I.base.free, fun b o e hx => ?_, I.base.tups, I.base.frzs, I.base.tbls⟩, ⟨_, hn', fun j y v' e1 e2 e3 => ?_⟩, fun y c e => ?_, I.free, I.freeC, fun p hp => ?_, tracked ⟨oL, hoL, I.free⟩ hs, by simpa using I.len⟩ ⟨_, hs, .inl rfl⟩
    · exact (hs.2 b (Nat.ne_of_lt (Nat.lt_of_lt_of_le (Heap.lt_size e) I.ok.above))).trans (I.base.keep b o e n hb hx)
    · obtain ⟨sl, e1⟩ := I.base.slot b o e n hb hx
      exact ⟨sl, (hs.2 b (Nat.ne_of_lt (Nat.lt_of_lt_of_le (Heap.lt_size e) I.ok.above))).trans e1⟩
    · obtain ⟨o', e1⟩ := I.base.there b o e hx
      exact ⟨o', (hs.2 b (Nat.ne_of_lt (Nat.lt_of_lt_of_le (Heap.lt_size e) I.ok.above))).trans e1⟩
    · by_cases hj : j = i
      · subst hj
        rw [hi] at e1; cases e1
        rw [List.getElem?_set_self hiσ] at e2
        cases e2
        exact ⟨u, r, .inl ⟨hk, by simp⟩⟩
      · rw [List.getElem?_set_ne (Ne.symm hj)] at e2
        obtain ⟨u', r', q⟩ := hl j y v' e1 e2 e3
        refine ⟨u', r', ?_⟩
        rcases q with ⟨k, e⟩ | ⟨k, c, e, z⟩
        · refine .inl ⟨k, ?_⟩
          have : y ≠ x := fun e => hj (nodup_ix hN e1 (e ▸ hi))
          simp [this, e]
        · exact .inr ⟨k, c, e, z.sameBut hs (cne y c e)⟩
    · obtain ⟨w', z⟩ := I.cell y c e
      exact ⟨w', z.sameBut hs (cne y c e)⟩
    · obtain ⟨e, n, ne, nf, d⟩ := I.pin p hp
      exact ⟨(hs.2 p.1 ne).trans e, n, ne, nf, d⟩
  · have hfn : X.fn x = true := by
      rcases hf with z | z
      · exact z
      · rw [z] at hk; cases hk
    obtain ⟨c, hc⟩ := I.ok.has x (.inl hk)
    obtain ⟨w', z⟩ := I.cell x c hc
    refine wpAny_storeName_cell I.ok.kind hk hc z (fun h' hc' hs => ?_)
    obtain ⟨oc, hoc, hocd⟩ := id z
    refine h { s with heap := h' } ⟨I.ok, I.os, I.bare, ⟨fun b o e n hb hx => ?_, fun b o e n hb hx => ?_, I.base.free, fun b o e hx => ?_, I.base.tups, I.base.frzs, I.base.tbls⟩, ⟨m, hn.sameBut hs (Ne.symm (cne x c hc)), fun j y v' e1 e2 e3 => ?_⟩, fun y c' e => ?_, I.free, I.freeC, fun p hp => ?_, tracked ⟨oc, hoc, I.freeC x c hc⟩ hs, by simpa using I.len⟩ ⟨c, hs, .inr hc⟩
    · exact (hs.2 b (Nat.ne_of_lt (Nat.lt_of_lt_of_le (Heap.lt_size e) (I.ok.cab x c hfn hc)))).trans (I.base.keep b o e n hb hx)
    · obtain ⟨sl, e1⟩ := I.base.slot b o e n hb hx
      exact ⟨sl, (hs.2 b (Nat.ne_of_lt (Nat.lt_of_lt_of_le (Heap.lt_size e) (I.ok.cab x c hfn hc)))).trans e1⟩
    · obtain ⟨o', e1⟩ := I.base.there b o e hx
      exact ⟨o', (hs.2 b (Nat.ne_of_lt (Nat.lt_of_lt_of_le (Heap.lt_size e) (I.ok.cab x c hfn hc)))).trans e1⟩
    · by_cases hj : j = i
      · subst hj
        rw [hi] at e1; cases e1
        rw [List.getElem?_set_self hiσ] at e2
        cases e2
        exact ⟨u, r, .inr ⟨.inl hk, c, hc, hc'⟩⟩
      · rw [List.getElem?_set_ne (Ne.symm hj)] at e2
        obtain ⟨u', r', q⟩ := hl j y v' e1 e2 e3
        refine ⟨u', r', ?_⟩
        rcases q with q | ⟨k, c', e, z'⟩
        · exact .inl q
        · refine .inr ⟨k, c', e, z'.sameBut hs ?_⟩
          rintro rfl
          exact hj (nodup_ix hN e1 (I.ok.inj _ _ _ e hc ▸ hi))
    · by_cases hcc : c' = c
      · subst hcc; exact ⟨_, hc'⟩
      · obtain ⟨w2, z2⟩ := I.cell y c' e
        exact ⟨w2, z2.sameBut hs hcc⟩
    · obtain ⟨e, n, ne, nf, d⟩ := I.pin p hp
      refine ⟨(hs.2 p.1 ?_).trans e, n, ne, nf, d⟩
      intro q
      rw [q, hoc] at e
      have q' : oc = p.2 := Option.some.inj e
      exact d w' (by rw [← q']; exact hocd)
theorem store_ok {M : Model} {A : Around} {E : Value → Shared → Prop} {i : Nat} {x : Str} {v : V} {u : Value} {Q : Unit → Shared → Prop} (I : Inv X pins σ H s) (hN : X.N.Nodup) (hi : X.N[i]? = some x) (hx : Loc X.env.scope x) (r : RelV v u)
    (h : ∀ s', Inv X pins (σ.set i (some v)) H s' → Q () s') (hf : X.fn x = true ∨ X.env.scope.names.lookup x = some .local := by first | exact .inl rfl | exact .inr rfl | assumption) : wpAny M A (storeName X.env x u) Q E s :=
  store_ok2 I hN hi hx r (fun s' I' _ => h s' I') hf
theorem Inv.call' {s' : Shared} {ch : List Addr} (I : Inv X pins σ H s) (ho : s'.os = s.os) (u : Un (frs X.stack) ch H H' s.heap s'.heap) (hok : HOk X.prog X.w H' s'.heap) (hg : AllBare s'.gens)
    (hch : ∀ b ∈ ch, (b ∈ X.ex ∨ X.s₀.heap.objs.size ≤ b) ∧ b ≠ X.env.locals ∧ (∀ x c, X.env.cells.lookup x = some c → c ≠ b) ∧ ∀ p ∈ X.pn ++ pins, p.1 ≠ b) : Inv X pins σ H' s' := by
  obtain ⟨h', g', d', t', o'⟩ := s'
  have e : o' = s.os := ho
  subst e
  exact I.call (g' := g') (t' := t') (d' := d') u hok hg hch
end

abbrev XK := Value → Option Addr → Hp → Prop
abbrev St := List (Option V)
abbrev VK := V → Hp → Prop
abbrev TE := St → Hp → VK → Prop
abbrev TT := St → Hp → (Bool → Hp → Prop) → Prop
abbrev TA := St → Hp → (List V → Hp → Prop) → Prop
structure Ends where
  nx : St → Hp → Prop
  rt : VK
  bk : St → Hp → Prop := fun _ _ => False
  ct : St → Hp → Prop := fun _ _ => False
abbrev TS := Ends → St → Hp → Prop

def EP (X : Cx) (pins : List (Addr × Obj)) (σ : St) (Q : VK) (u : Value) (s' : Shared) : Prop := ∃ v H', Inv X pins σ H' s' ∧ RelV v u ∧ Q v H'
def TP (X : Cx) (pins : List (Addr × Obj)) (σ : St) (Q : Bool → Hp → Prop) (b : Bool) (s' : Shared) : Prop := ∃ H', Inv X pins σ H' s' ∧ Q b H'
def AP (X : Cx) (pins : List (Addr × Obj)) (σ : St) (Q : List V → Hp → Prop) (us : List Value) (s' : Shared) : Prop := ∃ vs H', Inv X pins σ H' s' ∧ Vals vs us ∧ Q vs H'
def SP (X : Cx) (pins : List (Addr × Obj)) (D : Ends) (f : Flow) (s' : Shared) : Prop :=
  match f with
  | .next => ∃ σ' H', Inv X pins σ' H' s' ∧ D.nx σ' H'
  | .brk => ∃ σ' H', Inv X pins σ' H' s' ∧ D.bk σ' H'
  | .cont => ∃ σ' H', Inv X pins σ' H' s' ∧ D.ct σ' H'
  | .ret u => ∃ v σ' H', Inv X pins σ' H' s' ∧ RelV v u ∧ D.rt v H'

def PE (X : Cx) (e : Expr) (t : TE) : Prop :=
  ∀ (pins : List (Addr × Obj)) (s : Shared) (σ : St) (H : Hp) (Q : VK), Inv X pins σ H s → t σ H Q → wpAny (model X.prog X.w) X.A (eval e X.env) (EP X pins σ Q) X.xe s
def PT (X : Cx) (e : Expr) (t : TT) : Prop :=
  ∀ (pins : List (Addr × Obj)) (s : Shared) (σ : St) (H : Hp) (Q : Bool → Hp → Prop), Inv X pins σ H s → t σ H Q → wpAny (model X.prog X.w) X.A (isTrue e X.env (eval e X.env)) (TP X pins σ Q) X.xe s
def PW (X : Cx) (e : Expr) (t : TT) : Prop :=
  ∀ (whole : Sem Value) (pins : List (Addr × Obj)) (s : Shared) (σ : St) (H : Hp) (Q : Bool → Hp → Prop), Inv X pins σ H s → t σ H Q → wpAny (model X.prog X.w) X.A (isTrue e X.env whole) (TP X pins σ Q) X.xe s
theorem PW.pt {X : Cx} {e : Expr} {t : TT} (h : PW X e t) : PT X e t := h _
def PA (X : Cx) (es : List Expr) (t : TA) : Prop :=
  ∀ (pos : Pos) (pins : List (Addr × Obj)) (s : Shared) (σ : St) (H : Hp) (Q : List V → Hp → Prop), Inv X pins σ H s → t σ H Q → wpAny (model X.prog X.w) X.A (spliced (backTo pos (starEach es X.env))) (AP X pins σ Q) X.xe s
def PS (X : Cx) (st : Stmt) (t : TS) : Prop :=
  ∀ (pins : List (Addr × Obj)) (s : Shared) (σ : St) (H : Hp) (D : Ends), Inv X pins σ H s → t D σ H → wpAny (model X.prog X.w) X.A (exec st X.env) (SP X pins D) X.xe s
def PSs (X : Cx) (st : List Stmt) (t : TS) : Prop :=
  ∀ (pins : List (Addr × Obj)) (s : Shared) (σ : St) (H : Hp) (D : Ends), Inv X pins σ H s → t D σ H → wpAny (model X.prog X.w) X.A (execs st X.env) (SP X pins D) X.xe s
theorem thn {α : Type} {t : Sem α} {Q Q' : α → Shared → Prop} {M : Model} {A : Around} {E : Value → Shared → Prop} {s : Shared} (h : wpAny M A t Q E s) (hQ : ∀ a s, Q a s → Q' a s) : wpAny M A t Q' E s := wpAny_mono h hQ fun _ _ x => x
end L2

namespace L2
open PySem PySem.Spec PyProof.Rows
section
variable {X : Cx}

theorem bin {a b : Expr} {ta tb : TE} (ha : PE X a ta) (hb : PE X b tb) {pins : List (Addr × Obj)} {s : Shared} {σ : St} {H : Hp} {R : V → V → Hp → Prop} (I : Inv X pins σ H s) (h : ta σ H fun x H1 => tb σ H1 fun y H2 => R x y H2)
    {α : Type} {Q : α → Shared → Prop} {f : Value → Value → Sem α}
    (hf : ∀ v u s2 x y H2, Inv X pins σ H2 s2 → RelV x v → RelV y u → R x y H2 → wpAny (model X.prog X.w) X.A (f v u) Q X.xe s2) :
    wpAny (model X.prog X.w) X.A (eval a X.env) (fun v s₁ => wpAny (model X.prog X.w) X.A (eval b X.env) (fun u s₂ => wpAny (model X.prog X.w) X.A (f v u) Q X.xe s₂) X.xe s₁) X.xe s := by
  refine thn (ha pins s σ H _ I h) fun v s1 ⟨x, H1, I1, r1, q1⟩ => ?_
  refine thn (hb pins s1 σ H1 _ I1 q1) fun u s2 ⟨y, H2, I2, r2, q2⟩ => ?_
  exact hf v u s2 x y H2 I2 r1 r2 q2

def tVar (i : Nat) : TE := fun σ H Q => ∃ v, σ[i]? = some (some v) ∧ Q v H
def tC (v : V) : TE := fun _ H Q => Q v H
theorem pe_var {i : Nat} {x : Str} {pos : Pos} (hN : X.N[i]? = some x) (hv : Vis X.env.scope x) (hd : (x == ("__debug__" : Str)) = false := by decide) (hcd : (x == ("__classdict__" : Str)) = false := by decide) : PE X (.Name x pos) (tVar i) := by
  intro pins s σ H Q I h
  obtain ⟨v, e, h⟩ := h
  obtain ⟨m, hn, hl⟩ := I.loc
  obtain ⟨u, r, l⟩ := hl i x v hN e hv
  have fin : EP X pins σ Q u s := ⟨v, H, I, r, h⟩
  rcases l with ⟨hk, hm⟩ | ⟨hk, c, hc, hcell⟩
  · exact wpAny_Name (wpAny_loadName_local I.ok.kind hk hn hm fin) hd
  · rcases hk with hk | hk
    · exact wpAny_Name (wpAny_loadName_cell I.ok.kind hk hc hcell fin) hd
    · exact wpAny_Name (wpAny_loadName_free I.ok.kind hk hc hcell fin hcd) hd
theorem pe_int {i j pos} : PE X (.Constant (.int i) j pos) (tC (.int i)) := fun _ _ _ H _ I h => wpAny_Constant_int ⟨.int i, H, I.tok _, ⟨_, rfl⟩, h⟩
theorem pe_bl {b j pos} : PE X (.Constant (.bool b) j pos) (tC (.bl b)) := fun _ _ _ H _ I h => Constant_bool ⟨.bl b, H, I, rfl, h⟩
theorem pe_non {j pos} : PE X (.Constant .none j pos) (tC .non) := fun _ _ _ H _ I h => Constant_none ⟨.non, H, I, rfl, h⟩
theorem pe_str {x j pos} : PE X (.Constant (.str x) j pos) (tC (.str x)) := fun _ _ _ H _ I h => Calls.Constant_str ⟨.str x, H, I.tok _, ⟨_, rfl⟩, h⟩

def Gl (X : Cx) (x : Str) : Prop := X.env.kindOf x = some .globalImplicit
theorem ld_glob {E : Value → Shared → Prop} {pins : List (Addr × Obj)} {s : Shared} {σ : St} {H : Hp} {x : Str} {u : Value} {pos : Pos} {Q : Value → Shared → Prop} (I : Inv X pins σ H s) (hg : Gl X x) (hm : X.mg x = some u) (h : Q u s)
    (hd : (x == ("__debug__" : Str)) = false := by decide) : wpAny (model X.prog X.w) X.A (eval (.Name x pos) X.env) Q E s :=
  Calls.Name_function_global I.ok.kind hg (Calls.loadGlobal_global (by rw [I.ok.glob]; exact I.mod.glob.keeps I.bk) hm h) hd
theorem ld_blt {E : Value → Shared → Prop} {pins : List (Addr × Obj)} {s : Shared} {σ : St} {H : Hp} {x : Str} {u : Value} {pos : Pos} {Q : Value → Shared → Prop} (I : Inv X pins σ H s) (hg : Gl X x) (hm : X.mg x = none) (hv : bootBuiltins x = some u) (h : Q u s)
    (hn : x ≠ "__name__" := by decide) (hd : (x == ("__debug__" : Str)) = false := by decide) : wpAny (model X.prog X.w) X.A (eval (.Name x pos) X.env) Q E s := by
  obtain ⟨mb, h1, h2⟩ := I.mod.blt
  exact Calls.Name_function_global I.ok.kind hg (Calls.loadGlobal_builtin (by rw [I.ok.glob]; exact I.mod.glob.keeps I.bk) hm (by rw [I.ok.blt]; exact h1.keeps I.bk) ((h2 x hn).trans hv) h) hd
theorem pe_glob {x : Str} {v : V} {u : Value} {pos : Pos} (hg : Gl X x) (hm : X.mg x = some u) (r : RelV v u) (hd : (x == ("__debug__" : Str)) = false := by decide) : PE X (.Name x pos) (tC v) :=
  fun _ _ _ H _ I h => ld_glob I hg hm ⟨v, H, I, r, h⟩ hd
theorem pe_bltn {x : Str} {v : V} {u : Value} {pos : Pos} (hg : Gl X x) (hm : X.mg x = none) (hv : bootBuiltins x = some u) (r : RelV v u) (hn : x ≠ "__name__" := by decide) (hd : (x == ("__debug__" : Str)) = false := by decide) : PE X (.Name x pos) (tC v) :=
  fun _ _ _ H _ I h => ld_blt I hg hm hv ⟨v, H, I, r, h⟩ hn hd

def t2I (ta tb : TE) (k : Int → Int → Hp → Prop) : St → Hp → Prop := fun σ H => ta σ H fun x H1 => tb σ H1 fun y H2 => ∃ i j, x = .int i ∧ y = .int j ∧ k i j H2
def tAdd (ta tb : TE) : TE := fun σ H Q => t2I ta tb (fun i j H2 => Q (.int (i + j)) H2) σ H
def tSub (ta tb : TE) : TE := fun σ H Q => t2I ta tb (fun i j H2 => Q (.int (i - j)) H2) σ H
def tMul (ta tb : TE) : TE := fun σ H Q => t2I ta tb (fun i j H2 => (-(2 ^ 64) < i ∧ i < 2 ^ 64) ∧ Q (.int (i * j)) H2) σ H
variable {a b : Expr} {ta tb : TE} {pos : Pos}
theorem pe_add (ha : PE X a ta) (hb : PE X b tb) : PE X (.BinOp a .Add b pos) (tAdd ta tb) := by
  intro pins s σ H Q I h
  refine wpAny_BinOp (bin ha hb I h fun v u s2 x y H2 I2 rx ry q => ?_)
  obtain ⟨i, j, rfl, rfl, q⟩ := q
  obtain ⟨t, rfl⟩ := rx
  obtain ⟨t', rfl⟩ := ry
  exact add_int ⟨.int _, H2, I2.tok _, ⟨_, rfl⟩, q⟩
theorem pe_sub (ha : PE X a ta) (hb : PE X b tb) : PE X (.BinOp a .Sub b pos) (tSub ta tb) := by
  intro pins s σ H Q I h
  refine wpAny_BinOp (bin ha hb I h fun v u s2 x y H2 I2 rx ry q => ?_)
  obtain ⟨i, j, rfl, rfl, q⟩ := q
  obtain ⟨t, rfl⟩ := rx
  obtain ⟨t', rfl⟩ := ry
  exact sub_int ⟨.int _, H2, I2.tok _, ⟨_, rfl⟩, q⟩
theorem pe_mul (ha : PE X a ta) (hb : PE X b tb) : PE X (.BinOp a .Mult b pos) (tMul ta tb) := by
  intro pins s σ H Q I h
  refine wpAny_BinOp (bin ha hb I h fun v u s2 x y H2 I2 rx ry q => ?_)
  obtain ⟨i, j, rfl, rfl, ⟨q1, q2⟩, q⟩ := q
  obtain ⟨t, rfl⟩ := rx
  obtain ⟨t', rfl⟩ := ry
  exact mul_int ⟨.int _, H2, I2.tok _, ⟨_, rfl⟩, q⟩ (.of_left (intBits_le_64 q1 q2))

def PC (X : Cx) (op : CmpOp) (a b : Expr) (t : TE) : Prop :=
  ∀ (pins : List (Addr × Obj)) (s : Shared) (σ : St) (H : Hp) (Q : VK), Inv X pins σ H s → t σ H Q →
    wpAny (model X.prog X.w) X.A (eval a X.env) (fun v s₁ => wpAny (model X.prog X.w) X.A (eval b X.env) (fun u s₂ => wpAny (model X.prog X.w) X.A (compareOp op v u) (EP X pins σ Q) X.xe s₂) X.xe s₁) X.xe s
theorem nobehind (b : Expr) {op : CmpOp} (h : op ≠ .In) (h2 : op ≠ .NotIn) : behindInMarks op b = false := by
  have e1 : (op == CmpOp.In) = false := by cases op <;> first | rfl | exact absurd rfl h
  have e2 : (op == CmpOp.NotIn) = false := by cases op <;> first | rfl | exact absurd rfl h2
  cases b <;> simp [behindInMarks, e1, e2]
def tCmp (p : Int → Int → Bool) (ta tb : TE) : TE := fun σ H Q => t2I ta tb (fun i j H2 => Q (.bl (p i j)) H2) σ H
abbrev tLt : TE → TE → TE := tCmp fun i j => decide (i < j)
abbrev tLe : TE → TE → TE := tCmp fun i j => decide (i ≤ j)
abbrev tGt : TE → TE → TE := tCmp fun i j => decide (j < i)
abbrev tGe : TE → TE → TE := tCmp fun i j => decide (j ≤ i)
abbrev tEqI : TE → TE → TE := tCmp fun i j => decide (i = j)
abbrev tNeI : TE → TE → TE := tCmp fun i j => !decide (i = j)
theorem pc_int {op : CmpOp} {p : Int → Int → Bool} (ha : PE X a ta) (hb : PE X b tb)
    (rule : ∀ (i j : Int) (t u : Tok) (Q : Value → Shared → Prop) (s : Shared), Q (.bool (p i j)) s → wpAny (model X.prog X.w) X.A (compareOp op (.int i t) (.int j u)) Q X.xe s) : PC X op a b (tCmp p ta tb) := by
  intro pins s σ H Q I h
  refine bin ha hb I h fun v u s2 x y H2 I2 rx ry q => ?_
  obtain ⟨i, j, rfl, rfl, q⟩ := q
  obtain ⟨t, rfl⟩ := rx
  obtain ⟨t', rfl⟩ := ry
  exact rule i j t t' _ s2 ⟨.bl _, H2, I2, rfl, q⟩
theorem pc_lt (ha : PE X a ta) (hb : PE X b tb) : PC X .Lt a b (tLt ta tb) := pc_int ha hb fun _ _ _ _ _ _ h => lt_int h
theorem pc_le (ha : PE X a ta) (hb : PE X b tb) : PC X .LtE a b (tLe ta tb) := pc_int ha hb fun _ _ _ _ _ _ h => le_int h
theorem pc_gt (ha : PE X a ta) (hb : PE X b tb) : PC X .Gt a b (tGt ta tb) := pc_int ha hb fun _ _ _ _ _ _ h => gt_int h
theorem pc_ge (ha : PE X a ta) (hb : PE X b tb) : PC X .GtE a b (tGe ta tb) := pc_int ha hb fun _ _ _ _ _ _ h => ge_int h
theorem pc_eqI (ha : PE X a ta) (hb : PE X b tb) : PC X .Eq a b (tEqI ta tb) := pc_int ha hb fun _ _ _ _ _ _ h => eq_int (by rw [Bool.beq_eq_decide_eq]; exact h)
theorem pc_neI (ha : PE X a ta) (hb : PE X b tb) : PC X .NotEq a b (tNeI ta tb) := pc_int ha hb fun _ _ _ _ _ _ h => ne_int (by rw [bne, Bool.beq_eq_decide_eq]; exact h)
def tIsN (ta : TE) : TE := fun σ H Q => ta σ H fun x H1 => Q (.bl (decide (x = .non))) H1
def tNotN (ta : TE) : TE := fun σ H Q => ta σ H fun x H1 => Q (.bl (!decide (x = .non))) H1
theorem RelV.none_iff {x : V} {v : Value} (r : RelV x v) : (v == Value.none) = decide (x = .non) := by
  cases x with
  | non => cases r; rfl
  | bl _ => cases r; rfl
  | int _ => obtain ⟨t, rfl⟩ := r; rfl
  | str _ => obtain ⟨t, rfl⟩ := r; rfl
  | byt _ => obtain ⟨t, rfl⟩ := r; rfl
  | flt _ => obtain ⟨t, rfl⟩ := r; rfl
  | ref _ => cases r; rfl
  | ty _ => cases r; rfl
theorem pc_isN {j pos'} (ha : PE X a ta) : PC X .Is a (.Constant .none j pos') (tIsN ta) := by
  intro pins s σ H Q I h
  refine thn (ha pins s σ H _ I h) fun v s1 ⟨x, H1, I1, r1, q1⟩ => ?_
  exact Constant_none (is_none_gen ⟨.bl _, H1, I1, by rw [r1.none_iff]; rfl, q1⟩)
theorem pc_notN {j pos'} (ha : PE X a ta) : PC X .IsNot a (.Constant .none j pos') (tNotN ta) := by
  intro pins s σ H Q I h
  refine thn (ha pins s σ H _ I h) fun v s1 ⟨x, H1, I1, r1, q1⟩ => ?_
  exact Constant_none (isnot_none_gen ⟨.bl _, H1, I1, by rw [r1.none_iff]; rfl, q1⟩)
def tB (t : TE) : TT := fun σ H Q => t σ H fun x H1 => ∃ c, x = .bl c ∧ Q c H1
theorem pe_cmp {op : CmpOp} {t : TE} (h : PC X op a b t) (h1 : behindInMarks op b = false := by first | exact nobehind _ (by decide) (by decide) | rfl) : PE X (.Compare a [op] [b] pos) t := fun pins s σ H Q I hw => wpAny_Compare1 (h pins s σ H Q I hw) h1
theorem pt_cmp {op : CmpOp} {t : TE} (h : PC X op a b t) (h1 : behindInMarks op b = false := by first | exact nobehind _ (by decide) (by decide) | rfl) : PT X (.Compare a [op] [b] pos) (tB t) := by
  intro pins s σ H Q I hw
  refine wpAny_isTrue_Compare1 (thn (h pins s σ H _ I hw) fun v s1 h1 => thn h1 fun u s2 h2 => thn h2 fun c s3 ⟨x, H1, I1, r1, q1⟩ => ?_) h1
  obtain ⟨d, rfl, q⟩ := q1
  cases r1
  exact wpAny_truthy_bool ⟨H1, I1, q⟩
theorem pt_val {e : Expr} {t : TE} (h : PE X e t) (he : ∀ whole, isTrue e X.env whole = (do let v ← whole; standAt e.pos; holding [v] (truthy v)) := by intro _; rfl) : PT X e (tB t) := by
  intro pins s σ H Q I hw
  refine isTrue_plain (thn (h pins s σ H _ I hw) fun v s1 ⟨x, H1, I1, r1, q1⟩ => ?_) (he _)
  obtain ⟨d, rfl, q⟩ := q1
  cases r1
  exact wpAny_truthy_bool ⟨H1, I1, q⟩

variable {tA tB' : TT} {rest : List Expr}
def tAnd (t u : TT) : TT := fun σ H Q => t σ H fun c H1 => if c = true then u σ H1 Q else Q false H1
def tOr (t u : TT) : TT := fun σ H Q => t σ H fun c H1 => if c = true then Q true H1 else u σ H1 Q
def tNot (t : TT) : TT := fun σ H Q => t σ H fun c H1 => Q (!c) H1
theorem pw_and1 (ha : PT X a tA) : PW X (.BoolOp .And [a] pos) tA := by
  intro wh pins s σ H Q I h
  refine isTrue_and (thn (ha pins s σ H Q I h) fun c s1 e => ?_)
  cases c with
  | true => exact isTrue_and_nil e
  | false => exact e
theorem pw_or1 (ha : PT X a tA) : PW X (.BoolOp .Or [a] pos) tA := by
  intro wh pins s σ H Q I h
  refine isTrue_or (thn (ha pins s σ H Q I h) fun c s1 e => ?_)
  cases c with
  | false => exact isTrue_or_nil e
  | true => exact e
theorem pw_and (ha : PT X a tA) (hb : PW X (.BoolOp .And (b :: rest) pos) tB') : PW X (.BoolOp .And (a :: b :: rest) pos) (tAnd tA tB') := by
  intro wh pins s σ H Q I h
  refine isTrue_and (thn (ha pins s σ H _ I h) fun c s1 ⟨H1, I1, q1⟩ => ?_)
  cases c with
  | true => exact hb wh pins s1 σ H1 Q I1 q1
  | false => exact ⟨H1, I1, q1⟩
theorem pw_or (ha : PT X a tA) (hb : PW X (.BoolOp .Or (b :: rest) pos) tB') : PW X (.BoolOp .Or (a :: b :: rest) pos) (tOr tA tB') := by
  intro wh pins s σ H Q I h
  refine isTrue_or (thn (ha pins s σ H _ I h) fun c s1 ⟨H1, I1, q1⟩ => ?_)
  cases c with
  | true => exact ⟨H1, I1, q1⟩
  | false => exact hb wh pins s1 σ H1 Q I1 q1
theorem pt_not (ha : PT X a tA) : PT X (.UnaryOp .Not a pos) (tNot tA) := by
  intro pins s σ H Q I h
  exact isTrue_not (ha pins s σ H (fun c H1 => Q (!c) H1) I h)
def tAndV (ta tb : TE) : TE := fun σ H Q => ta σ H fun x H1 => ∃ c, x = .bl c ∧ if c = true then tb σ H1 Q else Q (.bl false) H1
def tOrV (ta tb : TE) : TE := fun σ H Q => ta σ H fun x H1 => ∃ c, x = .bl c ∧ if c = true then Q (.bl true) H1 else tb σ H1 Q
def tNotV (ta : TE) : TE := fun σ H Q => ta σ H fun x H1 => ∃ c, x = .bl c ∧ Q (.bl (!c)) H1
theorem pe_one {op} {t : TE} (h : PE X a t) : PE X (.BoolOp op [a] pos) t := fun pins s σ H Q I hw => BoolOp_one (h pins s σ H Q I hw)
theorem pe_and (ha : PE X a ta) (hb : PE X (.BoolOp .And (b :: rest) pos) tb) : PE X (.BoolOp .And (a :: b :: rest) pos) (tAndV ta tb) := by
  intro pins s σ H Q I h
  refine BoolOp_and (thn (ha pins s σ H _ I h) fun v s1 ⟨x, H1, I1, r1, q1⟩ => ?_)
  obtain ⟨c, rfl, q1⟩ := q1
  cases r1
  refine wpAny_truthy_bool ?_
  cases c with
  | true => exact hb pins s1 σ H1 Q I1 q1
  | false => exact ⟨.bl false, H1, I1, rfl, q1⟩
theorem pe_or (ha : PE X a ta) (hb : PE X (.BoolOp .Or (b :: rest) pos) tb) : PE X (.BoolOp .Or (a :: b :: rest) pos) (tOrV ta tb) := by
  intro pins s σ H Q I h
  refine BoolOp_or (thn (ha pins s σ H _ I h) fun v s1 ⟨x, H1, I1, r1, q1⟩ => ?_)
  obtain ⟨c, rfl, q1⟩ := q1
  cases r1
  refine wpAny_truthy_bool ?_
  cases c with
  | false => exact hb pins s1 σ H1 Q I1 q1
  | true => exact ⟨.bl true, H1, I1, rfl, q1⟩
theorem pe_not (ha : PE X a ta) : PE X (.UnaryOp .Not a pos) (tNotV ta) := by
  intro pins s σ H Q I h
  refine UnaryOp_ (thn (ha pins s σ H _ I h) fun v s1 ⟨x, H1, I1, r1, q1⟩ => ?_)
  obtain ⟨c, rfl, q1⟩ := q1
  cases r1
  exact not_of (wpAny_truthy_bool ⟨.bl (!c), H1, I1, rfl, q1⟩)
def tIf (t : TT) (ta tb : TE) : TE := fun σ H Q => t σ H fun c H1 => if c = true then ta σ H1 Q else tb σ H1 Q
theorem pe_ifExp {c : Expr} (hc : PT X c tA) (ha : PE X a ta) (hb : PE X b tb) : PE X (.IfExp c a b pos) (tIf tA ta tb) := by
  intro pins s σ H Q I h
  refine wpAny_IfExp (thn (hc pins s σ H _ I h) fun d s1 ⟨H1, I1, q1⟩ => ?_)
  cases d with
  | true => exact ha pins s1 σ H1 Q I1 q1
  | false => exact hb pins s1 σ H1 Q I1 q1
end
end L2

namespace L2
open PySem PySem.Spec PyProof.Rows

def SqL (K : PySem.W.Frag) (H : Hp) (a : Addr) (xs : List V) : Prop :=
  Rd H a (.lst xs) ∨
    ∃ (o : Obj) (its : Array Value) (n : Nat), K.lookup a = some o ∧ o.cls = .type "list" ∧ o.dict = none ∧ o.data = .seq its n ∧ its.size ≤ sizeLine ∧ Vals xs its.toList
def SqT (K : PySem.W.Frag) (H : Hp) (a : Addr) (xs : List V) : Prop :=
  Rd H a (.tup xs) ∨
    ∃ (o : Obj) (its : Array Value) (n : Nat), K.lookup a = some o ∧ o.cls = .type "tuple" ∧ o.data = .seq its n ∧ its.size ≤ sizeLine ∧ Vals xs its.toList
def absV : Value → Option V
  | .none => some .non
  | .bool b => some (.bl b)
  | .int i _ => some (.int i)
  | .str x _ => some (.str x)
  | .bytes b _ => some (.byt b)
  | .float b _ => some (.flt b)
  | .ref a => some (.ref a)
  | .type n => some (.ty n)
  | _ => none
theorem RelV.abs {x : V} {u : Value} (r : RelV x u) : absV u = some x := by
  cases x with
  | non => cases r; rfl
  | bl _ => cases r; rfl
  | int _ => obtain ⟨t, rfl⟩ := r; rfl
  | str _ => obtain ⟨t, rfl⟩ := r; rfl
  | byt _ => obtain ⟨t, rfl⟩ := r; rfl
  | flt _ => obtain ⟨t, rfl⟩ := r; rfl
  | ref _ => cases r; rfl
  | ty _ => cases r; rfl
theorem RelV.inj {x y : V} {u : Value} (r : RelV x u) (q : RelV y u) : x = y := Option.some.inj (r.abs.symm.trans q.abs)
theorem Vals.inj : ∀ {xs ys : List V} {us : List Value}, Vals xs us → Vals ys us → xs = ys
  | _, _, _, .nil, .nil => rfl
  | _, _, _, .cons r t, .cons r' t' => by rw [r.inj r', Vals.inj t t']
section
variable {X : Cx} {pins : List (Addr × Obj)} {σ : St} {H : Hp} {s : Shared} {a : Addr} {xs ys : List V}
theorem SqL.of {K : PySem.W.Frag} (h : H a = some (.lst xs)) : SqL K H a xs := .inl (.inl h)
theorem SqT.of {K : PySem.W.Frag} (h : H a = some (.tup xs)) : SqT K H a xs := .inl (.inl h)
theorem Inv.list (I : Inv X pins σ H s) (h : SqL X.K H a xs) : ∃ its : List Value, Vals xs its ∧ PlainL s.heap a its.toArray ∧ xs.length ≤ sizeLine := by
  rcases h with h | ⟨o, its, n, hk, hc, hd, hs, hz, r⟩
  · obtain ⟨z, its, n, r, e⟩ := h.ok I.hok
    exact ⟨its, r, ⟨_, n, e, rfl, rfl, rfl⟩, z⟩
  · refine ⟨its.toList, r, ⟨o, n, I.kIn a o hk, hc, hd, by simpa using hs⟩, ?_⟩
    have e := r.length
    simp only [Array.length_toList] at e
    omega
theorem Inv.tuple (I : Inv X pins σ H s) (h : SqT X.K H a xs) : ∃ its : List Value, Vals xs its ∧ IsTup s.heap a its.toArray ∧ xs.length ≤ sizeLine := by
  rcases h with h | ⟨o, its, n, hk, hc, hs, hz, r⟩
  · obtain ⟨z, its, r, p⟩ := h.ok I.hok
    exact ⟨its, r, p, z⟩
  · refine ⟨its.toList, r, ⟨o, I.kIn a o hk, hc, n, by simpa using hs⟩, ?_⟩
    have e := r.length
    simp only [Array.length_toList] at e
    omega
theorem Inv.list_inj (I : Inv X pins σ H s) (h : SqL X.K H a xs) (h' : SqL X.K H a ys) : xs = ys := by
  obtain ⟨its, r, ⟨o, n, e, _, _, d⟩, _⟩ := I.list h
  obtain ⟨its', r', ⟨o', n', e', _, _, d'⟩, _⟩ := I.list h'
  rw [e] at e'; cases e'
  rw [d] at d'
  injection d' with d1 _
  have : its = its' := by simpa using congrArg Array.toList d1
  subst this
  exact r.inj r'
theorem Inv.tuple_inj (I : Inv X pins σ H s) (h : SqT X.K H a xs) (h' : SqT X.K H a ys) : xs = ys := by
  obtain ⟨its, r, ⟨o, e, _, n, d⟩, _⟩ := I.tuple h
  obtain ⟨its', r', ⟨o', e', _, n', d'⟩, _⟩ := I.tuple h'
  rw [e] at e'; cases e'
  rw [d] at d'
  injection d' with d1 _
  have : its = its' := by simpa using congrArg Array.toList d1
  subst this
  exact r.inj r'
end

abbrev Cx.wish (X : Cx) (E : Value → Shared → Prop) : Cx := { X with xe := E }
abbrev Cx.nox (X : Cx) : Cx := X.wish fun _ _ => False
theorem Cx.Ok.wish {X : Cx} (ok : X.Ok) (E : Value → Shared → Prop) : (X.wish E).Ok :=
  ⟨ok.mod, ok.kind, ok.glob, ok.blt, ok.above, ok.inj, ok.has, ok.cab, ok.hd, ok.frames, ok.stk, ok.exf, ok.bs, ok.bsz, ok.noex, ok.exfs, ok.funs, ok.frf⟩
theorem Cx.Ok.unwish {X : Cx} {E : Value → Shared → Prop} (ok : (X.wish E).Ok) : X.Ok :=
  ⟨ok.mod, ok.kind, ok.glob, ok.blt, ok.above, ok.inj, ok.has, ok.cab, ok.hd, ok.frames, ok.stk, ok.exf, ok.bs, ok.bsz, ok.noex, ok.exfs, ok.funs, ok.frf⟩
section
variable {X : Cx} {pins : List (Addr × Obj)} {σ : St} {H : Hp} {s : Shared} {E : Value → Shared → Prop}
theorem Inv.wish (I : Inv X pins σ H s) (E : Value → Shared → Prop) : Inv (X.wish E) pins σ H s := ⟨I.ok.wish E, I.os, I.bare, I.base, I.loc, I.cell, I.free, I.freeC, I.pin, I.hok, I.len⟩
theorem Inv.unwish (I : Inv (X.wish E) pins σ H s) : Inv X pins σ H s := ⟨I.ok.unwish, I.os, I.bare, I.base, I.loc, I.cell, I.free, I.freeC, I.pin, I.hok, I.len⟩
theorem SP.unwish {D : Ends} {f : Flow} {s' : Shared} (h : SP (X.wish E) pins D f s') : SP X pins D f s' := by
  cases f with
  | next => obtain ⟨σ', H', I, q⟩ := h; exact ⟨σ', H', I.unwish, q⟩
  | brk => obtain ⟨σ', H', I, q⟩ := h; exact ⟨σ', H', I.unwish, q⟩
  | cont => obtain ⟨σ', H', I, q⟩ := h; exact ⟨σ', H', I.unwish, q⟩
  | ret u => obtain ⟨v, σ', H', I, r, q⟩ := h; exact ⟨v, σ', H', I.unwish, r, q⟩
theorem PE.nox {e : Expr} {t : TE} (h : PE X.nox e t) : PE X e t := fun pins s σ H Q I hw =>
  wpAny_mono (h pins s σ H Q (I.wish _) hw) (fun _ _ ⟨v, H', I', r, q⟩ => ⟨v, H', I'.unwish, r, q⟩) fun _ _ z => False.elim z
theorem PT.nox {e : Expr} {t : TT} (h : PT X.nox e t) : PT X e t := fun pins s σ H Q I hw =>
  wpAny_mono (h pins s σ H Q (I.wish _) hw) (fun _ _ ⟨H', I', q⟩ => ⟨H', I'.unwish, q⟩) fun _ _ z => False.elim z
theorem PSs.nox {st : List Stmt} {t : TS} (h : PSs X.nox st t) : PSs X st t := fun pins s σ H D I hw =>
  wpAny_mono (h pins s σ H D (I.wish _) hw) (fun _ _ q => q.unwish) fun _ _ z => False.elim z
end

section
variable {X : Cx} {st : Stmt} {rest : List Stmt} {t u : TS} {e : Expr} {te : TE} {pos : Pos}
def tNext : TS := fun D σ H => D.nx σ H
def tSeq (t u : TS) : TS := fun D σ H => t { D with nx := u D } σ H
theorem pss_nil : PSs X [] tNext := fun _ _ σ H _ I h => wpAny_execs_nil ⟨σ, H, I, h⟩
theorem pss_cons (h1 : PS X st t) (h2 : PSs X rest u) : PSs X (st :: rest) (tSeq t u) := by
  intro pins s σ H D I h
  refine wpAny_execs_cons (thn (h1 pins s σ H { D with nx := u D } I h) fun f s1 q => ?_)
  cases f with
  | next =>
    obtain ⟨σ', H', I', q⟩ := q
    exact h2 pins s1 σ' H' D I' q
  | ret v => exact q
  | brk => exact q
  | cont => exact q
theorem pss_one (h1 : PS X st t) : PSs X [st] t := by
  intro pins s σ H D I h
  refine wpAny_execs_cons (thn (h1 pins s σ H D I h) fun f s1 q => ?_)
  cases f with
  | next => exact wpAny_execs_nil q
  | ret v => exact q
  | brk => exact q
  | cont => exact q
def tBreak : TS := fun D σ H => D.bk σ H
def tCont : TS := fun D σ H => D.ct σ H
theorem ps_pass : PS X (.Pass pos) tNext := fun _ _ σ H _ I h => wpAny_Pass ⟨σ, H, I, h⟩
theorem ps_break : PS X (.Break pos) tBreak := fun _ _ σ H _ I h => wpAny_Break ⟨σ, H, I, h⟩
theorem ps_continue : PS X (.Continue pos) tCont := fun _ _ σ H _ I h => wpAny_Continue ⟨σ, H, I, h⟩
theorem Inv.quiet {pins : List (Addr × Obj)} {σ : St} {H : Hp} {s : Shared} (I : Inv X pins σ H s) : interactive X.env = false := by simp [interactive, I.ok.kind]
theorem ps_doc {x j pos pos'} : PS X (.Expr (.Constant (.str x) j pos) pos') tNext := fun _ s σ H _ I h => wpAny_Expr (Calls.Constant_str (show SP X _ _ .next { s with toks := s.toks + 1 } from ⟨σ, H, I.tok _, h⟩)) I.quiet
def tDrop (te : TE) : TS := fun D σ H => te σ H fun _ H1 => D.nx σ H1
theorem ps_expr (he : PE X e te) (hs : swapsWith e none pos.line X.env = pure false := by rfl) : PS X (.Expr e pos) (tDrop te) := by
  intro pins s σ H D I h
  exact wpAny_Expr_any (thn (he pins s σ H _ I h) fun v s1 ⟨x, H1, I1, r1, q1⟩ => ⟨σ, H1, I1, q1⟩) I.quiet hs
def tRet (te : TE) : TS := fun D σ H => te σ H D.rt
theorem ps_ret (he : PE X e te) : PS X (.Return (some e) pos) (tRet te) := by
  intro pins s σ H D I h
  exact wpAny_Return_some (thn (he pins s σ H _ I h) fun v s1 ⟨x, H1, I1, r1, q1⟩ => ⟨x, σ, H1, I1, r1, q1⟩)
def tRetN : TS := fun D _ H => D.rt .non H
theorem ps_retN : PS X (.Return none pos) tRetN := fun _ _ σ H _ I h => wpAny_Return_none ⟨.non, σ, H, I, rfl, h⟩
def tIfS (c : TT) (t u : TS) : TS := fun D σ H => c σ H fun b H1 => if b = true then t D σ H1 else u D σ H1
theorem ps_if {c : Expr} {a b : List Stmt} {tc : TT} (hc : PT X c tc) (ha : PSs X a t) (hb : PSs X b u) : PS X (.If c a b pos) (tIfS tc t u) := by
  intro pins s σ H D I h
  refine wpAny_If (thn (hc pins s σ H _ I h) fun d s1 ⟨H1, I1, q1⟩ => ?_)
  cases d with
  | true => exact ha pins s1 σ H1 D I1 q1
  | false => exact hb pins s1 σ H1 D I1 q1
def tNever : TS := fun _ _ _ => False
theorem ps_never : PS X st tNever := fun _ _ _ _ _ _ h => h.elim
theorem pss_never {sts : List Stmt} : PSs X sts tNever := fun _ _ _ _ _ _ h => h.elim
end

abbrev TG := V → St → Hp → (St → Hp → Prop) → Prop
abbrev TGs := List V → St → Hp → (St → Hp → Prop) → Prop
def PG (X : Cx) (target : Expr) (t : TG) : Prop :=
  ∀ (pins : List (Addr × Obj)) (s : Shared) (σ : St) (H : Hp) (v : V) (u : Value) (Q : St → Hp → Prop), Inv X pins σ H s → RelV v u → t v σ H Q →
    wpAny (model X.prog X.w) X.A (assign target X.env u) (fun _ s' => ∃ σ' H', Inv X pins σ' H' s' ∧ Q σ' H') X.xe s
def PGs (X : Cx) (ts : List Expr) (t : TGs) : Prop :=
  ∀ (pins : List (Addr × Obj)) (s : Shared) (σ : St) (H : Hp) (vs : List V) (us : List Value) (Q : St → Hp → Prop), Inv X pins σ H s → Vals vs us → t vs σ H Q →
    wpAny (model X.prog X.w) X.A (assignInOrder ((assignEach ts X.env).map (·.2)) us) (fun _ s' => ∃ σ' H', Inv X pins σ' H' s' ∧ Q σ' H') X.xe s
abbrev TSet := V → V → V → Hp → (Hp → Prop) → Prop
def PSet (X : Cx) (t : TSet) : Prop :=
  ∀ (pins : List (Addr × Obj)) (s : Shared) (σ : St) (H : Hp) (o i v : V) (ov iv u : Value) (Q : Hp → Prop), Inv X pins σ H s → RelV o ov → RelV i iv → RelV v u → t o i v H Q →
    wpAny (model X.prog X.w) X.A (setItem ov iv u) (fun _ s' => ∃ H', Inv X pins σ H' s' ∧ Q H') X.xe s
abbrev TIp := V → V → Hp → VK → Prop
def PIp (X : Cx) (op : Operator) (t : TIp) : Prop :=
  ∀ (pins : List (Addr × Obj)) (s : Shared) (σ : St) (H : Hp) (x y : V) (v u : Value) (Q : VK), Inv X pins σ H s → RelV x v → RelV y u → t x y H Q →
    wpAny (model X.prog X.w) X.A (inplaceOp op v u) (EP X pins σ Q) X.xe s
section
variable {X : Cx} {pos : Pos}
def gName (i : Nat) : TG := fun v σ H Q => Q (σ.set i (some v)) H
theorem pg_name {i : Nat} {x : Str} (hN : X.N.Nodup) (hi : X.N[i]? = some x) (hx : Loc X.env.scope x) (hf : X.fn x = true ∨ X.env.scope.names.lookup x = some .local := by first | exact .inl rfl | exact .inr rfl | assumption) : PG X (.Name x pos) (gName i) := by
  intro pins s σ H v u Q I r h
  exact wpAny_assign_Name (store_ok I hN hi hx r (fun s' I' => ⟨_, H, I', h⟩) hf)
def gNil : TGs := fun vs σ H Q => vs = [] ∧ Q σ H
def gCons (t : TG) (u : TGs) : TGs := fun vs σ H Q => ∃ v r, vs = v :: r ∧ t v σ H fun σ' H' => u r σ' H' Q
theorem pgs_nil : PGs X [] gNil := by
  intro pins s σ H vs us Q I r h
  obtain ⟨e, h⟩ := h
  subst e
  cases r
  exact assignInOrder_nil ⟨σ, H, I, h⟩
theorem pgs_cons {e : Expr} {es : List Expr} {t : TG} {u : TGs} (h1 : PG X e t) (h2 : PGs X es u)
    (hs : (assignEach (e :: es) X.env).map (·.2) = assign e X.env :: (assignEach es X.env).map (·.2) := by rfl) : PGs X (e :: es) (gCons t u) := by
  intro pins s σ H vs us Q I r h
  obtain ⟨v, vr, e1, h⟩ := h
  subst e1
  cases r with
  | cons r rr =>
    rw [hs]
    refine assignInOrder_cons (thn (h1 pins s σ H _ _ _ I r h) fun _ s1 ⟨σ1, H1, I1, q1⟩ => ?_)
    exact h2 pins s1 σ1 H1 _ _ Q I1 rr q1
def gTup (K : PySem.W.Frag) (n : Nat) (t : TGs) : TG := fun v σ H Q => ∃ a xs, v = .ref a ∧ SqT K H a xs ∧ xs.length = n ∧ t xs σ H Q
theorem pg_tup {es : List Expr} {k : Nat} {t : TGs} {n : Nat} (hc : X.calm = true) (h : PGs X es t)
    (hn : (assignEach es X.env).length = n := by rfl) (hst : (assignEach es X.env).findIdx? (·.1) = none := by rfl) : PG X (.Tuple es k pos) (gTup X.K n t) := by
  intro pins s σ H v u Q I r hw
  obtain ⟨a, xs, e1, hq, hl, hw⟩ := hw
  subst e1
  cases r
  obtain ⟨its, rv, ht, hz⟩ := I.tuple hq
  refine assign_Tuple_tuple (I.ok.hd hc) ht (by simp [hn, ← hl, rv.length]) hst fun h' hx => ?_
  have I1 : Inv X pins σ H { s with heap := h' } := I.kept (t' := s.toks) fun b o e => hx b o (Nat.ne_of_lt (Heap.lt_size e)) e
  exact h pins _ σ H xs _ Q I1 (by simpa using rv) hw
def gSub (to ti : TE) (t : TSet) : TG := fun v σ H Q => to σ H fun o H1 => ti σ H1 fun i H2 => t o i v H2 fun H3 => Q σ H3
theorem pg_sub {o i : Expr} {to ti : TE} {t : TSet} (ho : PE X o to) (hi : PE X i ti) (hs : PSet X t)
    (ha : ∀ v, assign (.Subscript o i pos) X.env v = (do
      let ov ← holding [v] (eval o X.env)
      let iv ← holding [v, ov] (eval i X.env)
      standAt pos
      holding [v, ov, iv] (setItem ov iv v)
      release [v, ov, iv] []) := by intro _; rfl) : PG X (.Subscript o i pos) (gSub to ti t) := by
  intro pins s σ H v u Q I r h
  rw [ha]
  refine wpAny_bind (wpAny_holding (thn (ho pins s σ H _ I h) fun ov s1 ⟨x, H1, I1, r1, q1⟩ => ?_))
  refine wpAny_bind (wpAny_holding (thn (hi pins s1 σ H1 _ I1 q1) fun iv s2 ⟨y, H2, I2, r2, q2⟩ => ?_))
  refine wpAny_bind (wpAny_standAt (wpAny_bind (wpAny_holding (thn (hs pins s2 σ H2 x y v ov iv u _ I2 r1 r2 r q2) fun _ s3 ⟨H3, I3, q3⟩ => ?_))))
  exact wpAny_release ⟨σ, H3, I3, q3⟩
def tAsg (te : TE) (g : TG) : TS := fun D σ H => te σ H fun x H1 => g x σ H1 D.nx
theorem ps_asg {tg e : Expr} {te : TE} {g : TG} (he : PE X e te) (hg : PG X tg g) (hs : swapsWithSole [tg] e pos.line X.env = pure false := by rfl) (hw : swappedStores [tg] e X.env = pure none := by rfl)
    (h1 : (assignEach [tg] X.env).map (·.2) = [assign tg X.env] := by rfl) : PS X (.Assign [tg] e pos) (tAsg te g) := by
  intro pins s σ H D I h
  refine wpAny_Assign_stores (thn (he pins s σ H _ I h) fun v s1 ⟨x, H1, I1, r1, q1⟩ => ?_) hs hw
  rw [h1]
  exact thn (hg pins s1 σ H1 x v _ I1 r1 q1) fun _ s2 q => q
theorem ps_set {i : Nat} {x : Str} {e : Expr} {te : TE} {pos' : Pos} (hN : X.N.Nodup) (hi : X.N[i]? = some x) (hx : Loc X.env.scope x) (he : PE X e te) (hs : swapsWith e (some (.Name x pos')) pos.line X.env = pure false := by rfl) (hf : X.fn x = true ∨ X.env.scope.names.lookup x = some .local := by first | exact .inl rfl | exact .inr rfl | assumption) :
    PS X (.Assign [.Name x pos'] e pos) (tAsg te (gName i)) := by
  intro pins s σ H D I h
  refine wpAny_Assign_Name (thn (he pins s σ H _ I h) fun v s1 ⟨y, H1, I1, r1, q1⟩ => ?_) hs
  exact store_ok I1 hN hi hx r1 (fun s2 I2 => ⟨_, H1, I2, q1⟩) hf
def tPar (i j : Nat) (ta : TA) : TS := fun D σ H => ta σ H fun vs H1 => ∃ v w, vs = [v, w] ∧ D.nx ((σ.set i (some v)).set j (some w)) H1
theorem ps_par {i j : Nat} {x y : Str} {a b : Expr} {ta : TA} {px py pt : Pos} {kt k2 pt2} (hc : X.calm = true) (hN : X.N.Nodup) (hi : X.N[i]? = some x) (hj : X.N[j]? = some y) (hij : i ≠ j)
    (hx : X.env.scope.names.lookup x = some .local) (hy : X.env.scope.names.lookup y = some .local) (ha : PA X [a, b] ta)
    (hw : swappedStores [.Tuple [.Name x px, .Name y py] kt pt] (.Tuple [a, b] k2 pt2) X.env = pure (some [x, y]))
    (hs : swapsWithSole [.Tuple [.Name x px, .Name y py] kt pt] (.Tuple [a, b] k2 pt2) pos.line X.env = pure false := by rfl) :
    PS X (.Assign [.Tuple [.Name x px, .Name y py] kt pt] (.Tuple [a, b] k2 pt2) pos) (tPar i j ta) := by
  intro pins s σ H D I h
  rw [exec_Assign_arm]
  refine wpAny_bind (wpAny_standAt ?_)
  rw [hs]
  refine wpAny_bind (wpAny_pure ?_)
  rw [if_neg (by decide)]
  refine wpAny_bind (Tuple_ (thn (ha _ pins s σ H _ I h) fun us s1 ⟨vs, H1, I1, r1, q1⟩ => ?_))
  obtain ⟨v, w, e1, q1⟩ := q1
  subst e1
  obtain ⟨u1, u2, rfl, rv, rw'⟩ : ∃ u1 u2, us = [u1, u2] ∧ RelV v u1 ∧ RelV w u2 := by
    cases r1 with
    | cons p q =>
      cases q with
      | cons p' q' =>
        cases q'
        exact ⟨_, _, rfl, p, p'⟩
  refine wpAny_newObj_type ?_ (by show 2 ≤ sizeLine; decide)
  have I2 : Inv X pins σ H1 { s1 with heap := s1.heap.push { cls := .type "tuple", data := .seq [u1, u2].toArray } } := I1.kept (t' := s1.toks) fun b o e => Heap.get?_push_of_some _ e
  rw [hw]
  refine wpAny_bind (wpAny_pure ?_)
  show wpAny (model X.prog X.w) X.A (do rule "assign.swapped-stores"; let items ← unpackItems (.ref s1.heap.objs.size) 2 none; assignInOrder [fun v => bindName X.env y v, fun v => bindName X.env x v] items.reverse; pure Flow.next) _ _ _
  refine wpAny_bind (wpAny_rule (wpAny_bind (unpackItems_tuple (items := #[u1, u2]) (I.ok.hd hc) (IsTup.new s1.heap _) fun h' hx' => ?_)))
  have I3 := I2.kept (h' := h') (t' := s1.toks) fun b o e => hx' b o (Nat.ne_of_lt (Heap.lt_size e)) e
  show wpAny _ _ (assignInOrder [fun v => bindName X.env y v, fun v => bindName X.env x v] [u2, u1] >>= fun _ => pure Flow.next) _ _ _
  refine wpAny_bind (assignInOrder_cons (wpAny_bindName (store_ok I3 hN hj (.inl hy) rw' (fun s2 I4 => ?_) (.inr hy))))
  refine assignInOrder_cons (wpAny_bindName (store_ok I4 hN hi (.inl hx) rv (fun s3 I5 => assignInOrder_nil (wpAny_pure ?_)) (.inr hx)))
  rw [List.set_comm _ _ (Ne.symm hij)] at I5
  exact ⟨_, H1, I5, q1⟩
def tAug (i : Nat) (te : TE) (ti : TIp) : TS := fun D σ H => ∃ x, σ[i]? = some (some x) ∧ te σ H fun y H1 => ti x y H1 fun z H2 => D.nx (σ.set i (some z)) H2
theorem ps_aug {i : Nat} {x : Str} {e : Expr} {te : TE} {op : Operator} {ti : TIp} {pos' : Pos} (hN : X.N.Nodup) (hi : X.N[i]? = some x) (hx : Loc X.env.scope x) (he : PE X e te) (ho : PIp X op ti) (hf : X.fn x = true ∨ X.env.scope.names.lookup x = some .local := by first | exact .inl rfl | exact .inr rfl | assumption) :
    PS X (.AugAssign (.Name x pos') op e pos) (tAug i te ti) := by
  intro pins s σ H D I h
  obtain ⟨v, e1, h⟩ := h
  obtain ⟨m, hn, hl⟩ := I.loc
  have vis : Vis X.env.scope x := by rcases hx with k | k; exact .inl k; exact .inr (.inl k)
  obtain ⟨u, r, l⟩ := hl i x v hi e1 vis
  refine wpAny_AugAssign_Name ?_
  have go : wpAny (model X.prog X.w) X.A (eval e X.env) (fun w s₂ => wpAny (model X.prog X.w) X.A (inplaceOp op u w) (fun r s₃ => wpAny (model X.prog X.w) X.A (storeName X.env x r) (fun _ => SP X pins D .next) X.xe s₃) X.xe s₂) X.xe s := by
    refine thn (he pins s σ H _ I h) fun w s1 ⟨y, H1, I1, r1, q1⟩ => ?_
    refine thn (ho pins s1 σ H1 v y u w _ I1 r r1 q1) fun z s2 ⟨zv, H2, I2, r2, q2⟩ => ?_
    exact store_ok I2 hN hi hx r2 (fun s3 I3 => ⟨_, H2, I3, q2⟩) hf
  rcases l with ⟨hk, hm⟩ | ⟨hk, c, hc, hcell⟩
  · exact wpAny_loadName_local I.ok.kind hk hn hm go
  · rcases hk with hk | hk
    · exact wpAny_loadName_cell I.ok.kind hk hc hcell go
    · rcases hx with k | k
      · have : X.env.scope.names.lookup x = some .free := hk
        rw [k] at this; cases this
      · have : X.env.scope.names.lookup x = some .free := hk
        rw [k] at this; cases this
def tAugS (to ti te : TE) (tget : V → V → Hp → VK → Prop) (tip : TIp) (tset : TSet) : TS := fun D σ H => to σ H fun o H1 => ti σ H1 fun i H2 => tget o i H2 fun x H3 => te σ H3 fun y H4 => tip x y H4 fun z H5 => tset o i z H5 fun H6 => D.nx σ H6
def PGet (X : Cx) (t : V → V → Hp → VK → Prop) : Prop :=
  ∀ (pins : List (Addr × Obj)) (s : Shared) (σ : St) (H : Hp) (o i : V) (ov iv : Value) (Q : VK), Inv X pins σ H s → RelV o ov → RelV i iv → t o i H Q →
    wpAny (model X.prog X.w) X.A (getItem ov iv) (EP X pins σ Q) X.xe s
theorem ps_augS {o i e : Expr} {to ti te : TE} {tget : V → V → Hp → VK → Prop} {tip : TIp} {tset : TSet} {op : Operator} {tpos : Pos} (ho : PE X o to) (hi : PE X i ti) (hg : PGet X tget) (he : PE X e te) (hp : PIp X op tip) (hs : PSet X tset)
    (ha : ∀ ov iv new, augStore i ov iv new = (do holding [new, ov, iv] (setItem ov iv new); release [new, ov, iv] []; pure .next) := by intros; rfl) : PS X (.AugAssign (.Subscript o i tpos) op e pos) (tAugS to ti te tget tip tset) := by
  intro pins s σ H D I h
  refine wpAny_AugAssign_SubscriptAny (thn (ho pins s σ H _ I h) fun ov s1 ⟨x1, H1, I1, r1, q1⟩ => ?_) ha
  refine thn (hi pins s1 σ H1 _ I1 q1) fun iv s2 ⟨x2, H2, I2, r2, q2⟩ => ?_
  refine thn (hg pins s2 σ H2 x1 x2 ov iv _ I2 r1 r2 q2) fun old s3 ⟨x3, H3, I3, r3, q3⟩ => ?_
  refine thn (he pins s3 σ H3 _ I3 q3) fun v s4 ⟨x4, H4, I4, r4, q4⟩ => ?_
  refine thn (hp pins s4 σ H4 x3 x4 old v _ I4 r3 r4 q4) fun new s5 ⟨x5, H5, I5, r5, q5⟩ => ?_
  exact thn (hs pins s5 σ H5 x1 x2 x5 ov iv new _ I5 r1 r2 r5 q5) fun _ s6 ⟨H6, I6, q6⟩ => ⟨σ, H6, I6, q6⟩
def ipI (f : Int → Int → Int) : TIp := fun x y H Q => ∃ i j, x = .int i ∧ y = .int j ∧ Q (.int (f i j)) H
theorem ip_add : PIp X .Add (ipI fun i j => i + j) := by
  intro pins s σ H x y v u Q I r1 r2 h
  obtain ⟨i, j, e1, e2, q⟩ := h
  subst e1; subst e2
  obtain ⟨t, rfl⟩ := r1
  obtain ⟨t', rfl⟩ := r2
  exact iadd_int ⟨.int _, H, I.tok _, ⟨_, rfl⟩, q⟩
theorem ip_sub : PIp X .Sub (ipI fun i j => i - j) := by
  intro pins s σ H x y v u Q I r1 r2 h
  obtain ⟨i, j, e1, e2, q⟩ := h
  subst e1; subst e2
  obtain ⟨t, rfl⟩ := r1
  obtain ⟨t', rfl⟩ := r2
  exact isub_int ⟨.int _, H, I.tok _, ⟨_, rfl⟩, q⟩
end

section
variable {X : Cx} {pos : Pos}
def tWhile (c : TT) (tb : TS) : TS := fun D σ H => ∃ W : Nat → St → Hp → Prop, (∃ m, W m σ H) ∧ ∀ m σ H, W m σ H →
  c σ H fun b H1 => if b = true then ∃ N : St → Hp → Prop, (∀ σ' H', N σ' H' → ∃ m', m' < m ∧ W m' σ' H') ∧ tb { D with nx := N, ct := N, bk := D.nx } σ H1 else D.nx σ H1
theorem ps_while {c : Expr} {body : List Stmt} {tc : TT} {tb : TS} (hp : PassesOwn (model X.prog X.w) X.A X.env X.xe) (hc : PT X c tc) (hb : PSs X body tb) : PS X (.While c body [] pos) (tWhile tc tb) := by
  intro pins s σ H D I h
  obtain ⟨W, ⟨m0, w0⟩, turn⟩ := h
  refine wpAny_While (codeAny_whileLoop (fun n s' => ∃ σ' H', Inv X pins σ' H' s' ∧ W n σ' H') ?_ m0 ⟨σ, H, I, w0⟩)
  rintro n s1 ⟨σ1, H1, I1, w1⟩
  refine wpAny_passesOwn hp (thn (hc pins s1 σ1 H1 _ I1 (turn n σ1 H1 w1)) fun b s2 ⟨H2, I2, q2⟩ => ?_)
  cases b with
  | true =>
    obtain ⟨N, hN, q2⟩ := q2
    rw [if_pos rfl]
    refine wpAny_passesOwn hp (thn (hb pins s2 σ1 H2 _ I2 q2) fun f s3 q3 => ?_)
    cases f with
    | next =>
      obtain ⟨σ3, H3, I3, n3⟩ := q3
      obtain ⟨m', hm, w3⟩ := hN σ3 H3 n3
      exact ⟨m', hm, σ3, H3, I3, w3⟩
    | cont =>
      obtain ⟨σ3, H3, I3, n3⟩ := q3
      obtain ⟨m', hm, w3⟩ := hN σ3 H3 n3
      exact ⟨m', hm, σ3, H3, I3, w3⟩
    | brk => exact q3
    | ret v => exact q3
  | false =>
    rw [if_neg Bool.false_ne_true]
    exact wpAny_execs_nil ⟨σ1, H2, I2, q2⟩
end

structure It where
  go : Nat → Hp → Prop
  yld : Nat → Hp → V → Hp → Prop
  stop : Nat → Hp → Prop
def FpOk (X : Cx) (pins : List (Addr × Obj)) (H : Hp) (b : Addr) : Prop :=
  H b = none ∧ b ≠ X.env.locals ∧ b ∉ X.fs ∧ (b ∈ X.ex ∨ X.s₀.heap.objs.size ≤ b) ∧ (∀ x c, X.env.cells.lookup x = some c → c ≠ b) ∧ ∀ p ∈ X.pn ++ pins, p.1 ≠ b
theorem Inv.fpOk {X : Cx} {pins : List (Addr × Obj)} {σ : St} {H H' : Hp} {s : Shared} {b : Addr} (I : Inv X pins σ H s) (hb : s.heap.objs.size ≤ b) (hn : H' b = none) : FpOk X pins H' b := by
  refine ⟨hn, Nat.ne_of_gt (Nat.lt_of_lt_of_le I.lt hb), I.nofs hb, .inr (Nat.le_trans I.sz hb), fun x c e z => ?_, fun p hp z => ?_⟩
  · obtain ⟨v, q⟩ := I.cell x c e
    exact absurd (Nat.lt_of_lt_of_le q.lt (by rw [z]; exact hb)) (Nat.lt_irrefl _)
  · exact absurd (Nat.lt_of_lt_of_le (Heap.lt_size (I.pin p hp).1) (by rw [z]; exact hb)) (Nat.lt_irrefl _)
structure Turn (P : Program) (w : World) (K : PySem.W.Frag) (tg : Expr) (J : It) (fp : List Addr) (it : Addr) (tn : Nat → Heap → Prop) : Prop where
  mem : it ∈ fp
  obj : ∀ i h, tn i h → ∀ b ∈ fp, ∃ o, h.get? b = some o ∧ ∀ v, o.data ≠ .cell v
  keep : ∀ i h h', tn i h → (∀ b ∈ fp, ∀ o, h.get? b = some o → h'.get? b = some o) → tn i h'
  item : ∀ (X : Cx), X.prog = P → X.w = w → X.K = K → X.calm = true → ∀ (i : Nat) (pins : List (Addr × Obj)) (s : Shared) (σ : St) (H : Hp) (E : Value → Shared → Prop), Inv X pins σ H s → (∀ b ∈ fp, FpOk X pins H b) → tn i s.heap → J.go i H →
    wpAny (model P w) X.A (pyNext (.ref it)) (fun r s1 => ∃ u, r = some u ∧
      wpAny (model P w) X.A (letOwnedTupleGo tg (.ref it) u) (fun _ s2 => ∃ x H', Inv X pins σ H' s2 ∧ RelV x u ∧ J.yld i H x H' ∧ tn (i + 1) s2.heap ∧ ∀ b ∈ fp, H' b = none) E s1) E s
  done : ∀ (X : Cx), X.prog = P → X.w = w → X.K = K → X.calm = true → ∀ (i : Nat) (pins : List (Addr × Obj)) (s : Shared) (σ : St) (H : Hp) (E : Value → Shared → Prop), Inv X pins σ H s → (∀ b ∈ fp, FpOk X pins H b) → tn i s.heap → J.stop i H →
    wpAny (model P w) X.A (pyNext (.ref it)) (fun r s1 => r = none ∧ Inv X pins σ H s1) E s
  self : ∀ (A : Around) (i : Nat) (s : Shared) (Q : Value → Shared → Prop) (E : Value → Shared → Prop), tn i s.heap → Q (.ref it) s → wpAny (model P w) A (pyIter (.ref it)) Q E s
abbrev TI := St → Hp → (It → Hp → Prop) → Prop
def PIE (X : Cx) (pins : List (Addr × Obj)) (σ : St) (tg : Expr) (R : It → Hp → Prop) (itv : Value) (s2 : Shared) : Prop :=
  ∃ (it : Addr) (fp : List Addr) (tn : Nat → Heap → Prop) (J : It) (H' : Hp), itv = .ref it ∧ Inv X pins σ H' s2 ∧ Turn X.prog X.w X.K tg J fp it tn ∧ tn 0 s2.heap ∧ (∀ b ∈ fp, FpOk X pins H' b) ∧ R J H'
def PI (X : Cx) (tg iter : Expr) (wi : TI) : Prop :=
  ∀ (pins : List (Addr × Obj)) (s : Shared) (σ : St) (H : Hp) (R : It → Hp → Prop), Inv X pins σ H s → wi σ H R →
    wpAny (model X.prog X.w) X.A (eval iter X.env) (fun v s1 => wpAny (model X.prog X.w) X.A (pyIter v) (PIE X pins σ tg R) X.xe s1) X.xe s

theorem go_of {M : Model} {A : Around} {E : Value → Shared → Prop} {s : Shared} {tg : Expr} {it : Addr} {u : Value} {o : Obj} {n : String} {vs : Array Value} {Q : Unit → Shared → Prop} (ho : s.heap.get? it = some o) (hc : o.cls = .type n) (hd : o.data = .fields vs)
    (hn : ["enumerate", "zip", "dict_itemiterator", "dict_reverseitemiterator", "odict_iterator", "itertools.zip_longest", "itertools.pairwise"].contains n = false) (hQ : Q () s) : wpAny M A (letOwnedTupleGo tg (.ref it) u) Q E s := by
  unfold letOwnedTupleGo
  cases tg <;> first
    | exact wpAny_pure hQ
    | (cases u <;> first
        | exact wpAny_pure hQ
        | (refine wpAny_bind (wpAny_load ho ?_)
           rw [hc, hd]
           show wpAny M A (if (["enumerate", "zip", "dict_itemiterator", "dict_reverseitemiterator", "odict_iterator", "itertools.zip_longest", "itertools.pairwise"].contains n && vs[0]? == some (rawInt _)) = true then _ else _) Q E s
           rw [if_neg (by intro h; rw [hn, Bool.false_and] at h; cases h)]
           exact wpAny_pure hQ))

def Itl (K : PySem.W.Frag) (a : Addr) : It :=
  ⟨fun i H => ∃ xs x, SqL K H a xs ∧ xs[i]? = some x, fun i H x H' => H' = H ∧ ∀ xs, SqL K H a xs → xs[i]? = some x, fun i H => ∃ xs, SqL K H a xs ∧ xs.length ≤ i⟩
def Itt (K : PySem.W.Frag) (a : Addr) : It :=
  ⟨fun i H => ∃ xs x, SqT K H a xs ∧ xs[i]? = some x, fun i H x H' => H' = H ∧ ∀ xs, SqT K H a xs → xs[i]? = some x, fun i H => ∃ xs, SqT K H a xs ∧ xs.length ≤ i⟩
def Itr (lo : Int) (n : Nat) : It := ⟨fun i _ => i < n, fun i H x H' => H' = H ∧ x = .int (lo + i), fun i _ => n ≤ i⟩
theorem turn_list {P : Program} {w : World} {K : PySem.W.Frag} {tg : Expr} (a it : Addr) : Turn P w K tg (Itl K a) [it] it (fun i h => h.IsListIter it a i) where
  mem := by simp
  obj := fun i h st b hb => by
    have e : b = it := by simpa using hb
    subst e
    obtain ⟨o, e, c, d⟩ := st
    exact ⟨o, e, fun v z => by rw [d] at z; cases z⟩
  keep := fun i h h' st k => st.at fun o e => k it (by simp) o e
  item := by
    intro X hP hw hK hc i pins s σ H E I hf st hg
    subst hP hw hK
    obtain ⟨xs, x, hq, hx⟩ := hg
    obtain ⟨its, rv, p, hz⟩ := I.list hq
    obtain ⟨u, hu, ru⟩ := rv.get hx
    obtain ⟨f0, f1, f2, f3, f4, f5⟩ := hf it (by simp)
    refine wpAny_pyNext_list_item st p.isList (x := u) (by simpa using hu) fun h' st' sb => ?_
    have I1 : Inv X pins σ H { s with heap := h' } := I.turned (t' := s.toks) (fun b o hb e => (sb.2 b hb).trans e) f0 f1 f3 f4 f5
    obtain ⟨o, e, c, d⟩ := id st'
    exact ⟨u, rfl, go_of (s := { s with heap := h' }) e c d (by decide) ⟨x, H, I1, ru, ⟨rfl, fun ys hy => by rw [I.list_inj hy hq]; exact hx⟩, st', fun b hb => (hf b hb).1⟩⟩
  done := by
    intro X hP hw hK hc i pins s σ H E I hf st hg
    subst hP hw hK
    obtain ⟨xs, hq, hx⟩ := hg
    obtain ⟨its, rv, p, hz⟩ := I.list hq
    obtain ⟨f0, f1, f2, f3, f4, f5⟩ := hf it (by simp)
    have hl := rv.length
    exact wpAny_pyNext_list_end (I.ok.hd hc) st p.isList (by simp; omega) fun h' eb => ⟨rfl, I.turned (t' := s.toks) (fun b o hb e => eb b o hb e) f0 f1 f3 f4 f5⟩
  self := fun _ _ _ _ _ st h => wpAny_pyIter_listiter st h
theorem turn_tuple {P : Program} {w : World} {K : PySem.W.Frag} {tg : Expr} (a it : Addr) : Turn P w K tg (Itt K a) [it] it (fun i h => h.IsTupleIter it a i) where
  mem := by simp
  obj := fun i h st b hb => by
    have e : b = it := by simpa using hb
    subst e
    obtain ⟨o, e, c, d⟩ := st
    exact ⟨o, e, fun v z => by rw [d] at z; cases z⟩
  keep := fun i h h' st k => st.at fun o e => k it (by simp) o e
  item := by
    intro X hP hw hK hc i pins s σ H E I hf st hg
    subst hP hw hK
    obtain ⟨xs, x, hq, hx⟩ := hg
    obtain ⟨its, rv, p, hz⟩ := I.tuple hq
    obtain ⟨u, hu, ru⟩ := rv.get hx
    obtain ⟨f0, f1, f2, f3, f4, f5⟩ := hf it (by simp)
    refine wpAny_pyNext_tuple_item st (show s.heap.IsTuple a its.toArray from p) (x := u) (by simpa using hu) fun h' st' sb => ?_
    have I1 : Inv X pins σ H { s with heap := h' } := I.turned (t' := s.toks) (fun b o hb e => (sb.2 b hb).trans e) f0 f1 f3 f4 f5
    obtain ⟨o, e, c, d⟩ := id st'
    exact ⟨u, rfl, go_of (s := { s with heap := h' }) e c d (by decide) ⟨x, H, I1, ru, ⟨rfl, fun ys hy => by rw [I.tuple_inj hy hq]; exact hx⟩, st', fun b hb => (hf b hb).1⟩⟩
  done := by
    intro X hP hw hK hc i pins s σ H E I hf st hg
    subst hP hw hK
    obtain ⟨xs, hq, hx⟩ := hg
    obtain ⟨its, rv, p, hz⟩ := I.tuple hq
    obtain ⟨f0, f1, f2, f3, f4, f5⟩ := hf it (by simp)
    have hl := rv.length
    exact wpAny_pyNext_tuple_end (I.ok.hd hc) st (show s.heap.IsTuple a its.toArray from p) (by simp; omega) fun h' eb => ⟨rfl, I.turned (t' := s.toks) (fun b o hb e => eb b o hb e) f0 f1 f3 f4 f5⟩
  self := fun _ _ _ _ _ st h => wpAny_pyIter_tupleiter st h
theorem turn_range {P : Program} {w : World} {K : PySem.W.Frag} {tg : Expr} (it : Addr) (lo : Int) (n : Nat) : Turn P w K tg (Itr lo n) [it] it (fun i h => IsRangeIter h it (lo + (i : Nat) * 1) ((n : Int) - (i : Nat)) 1) where
  mem := by simp
  obj := fun i h st b hb => by
    have e : b = it := by simpa using hb
    subst e
    exact ⟨_, st, fun v z => by
      have z' : Data.fields _ = Data.cell v := z
      cases z'⟩
  keep := fun i h h' st k => k it (by simp) _ st
  item := by
    intro X hP hw hK hc i pins s σ H E I hf st hg
    subst hP hw hK
    obtain ⟨f0, f1, f2, f3, f4, f5⟩ := hf it (by simp)
    have W := Walks.range (prog := X.prog) (w := X.w) (I.ok.hd hc) it lo 1 n
    refine W.item i s _ _ hg st fun v h' tk hv st' kk => ?_
    obtain ⟨t, rfl⟩ := hv
    have I1 : Inv X pins σ H { s with heap := h', toks := tk } := I.turned (fun b o hb e => kk b o (by simpa using hb) e) f0 f1 f3 f4 f5
    refine ⟨_, rfl, go_of (s := { s with heap := h', toks := tk }) (n := "range_iterator") st' rfl rfl (by decide) ⟨.int (lo + i), H, I1, ⟨t, ?_⟩, ⟨rfl, rfl⟩, st', fun b hb => (hf b hb).1⟩⟩
    rw [Int.mul_one]
  done := by
    intro X hP hw hK hc i pins s σ H E I hf st hg
    subst hP hw hK
    obtain ⟨f0, f1, f2, f3, f4, f5⟩ := hf it (by simp)
    exact wpAny_pyNext_range_end (I.ok.hd hc) st (by have : n ≤ i := hg; omega) fun h' eb => ⟨rfl, I.turned (t' := s.toks) (fun b o hb e => eb b o hb e) f0 f1 f3 f4 f5⟩
  self := fun _ _ _ _ _ st h => wpAny_pyIter_rangeiter st h
end L2

namespace L2
open PySem PySem.Spec PyProof.Rows
section
variable {X : Cx} {tg : Expr}
def iList (K : PySem.W.Frag) (tl : TE) : TI := fun σ H R => tl σ H fun x H1 => ∃ a, x = .ref a ∧ (∃ xs, SqL K H1 a xs) ∧ R (Itl K a) H1
def iTup (K : PySem.W.Frag) (tl : TE) : TI := fun σ H R => tl σ H fun x H1 => ∃ a, x = .ref a ∧ (∃ xs, SqT K H1 a xs) ∧ R (Itt K a) H1
theorem pi_list {l : Expr} {tl : TE} (hl : PE X l tl) : PI X tg l (iList X.K tl) := by
  intro pins s σ H R I h
  refine thn (hl pins s σ H _ I h) fun v s1 ⟨x, H1, I1, r1, q1⟩ => ?_
  obtain ⟨a, e, ⟨xs, hq⟩, q⟩ := q1
  subst e
  cases r1
  obtain ⟨its, rv, p, hz⟩ := I1.list hq
  refine wpAny_pyIter_list p.isList ?_
  refine ⟨s1.heap.objs.size, [s1.heap.objs.size], _, _, H1, rfl, I1.kept (t' := s1.toks) fun b o e => Heap.get?_push_of_some _ e, turn_list a _, ⟨_, Heap.get?_push_size _ rfl, rfl, rfl⟩, fun b hb => ?_, q⟩
  have e : b = s1.heap.objs.size := by simpa using hb
  subst e
  exact I1.fpOk (Nat.le_refl _) (I1.hok.fresh (Nat.le_refl _))
theorem pi_tup {l : Expr} {tl : TE} (hl : PE X l tl) : PI X tg l (iTup X.K tl) := by
  intro pins s σ H R I h
  refine thn (hl pins s σ H _ I h) fun v s1 ⟨x, H1, I1, r1, q1⟩ => ?_
  obtain ⟨a, e, ⟨xs, hq⟩, q⟩ := q1
  subst e
  cases r1
  obtain ⟨its, rv, p, hz⟩ := I1.tuple hq
  refine wpAny_pyIter_tuple (show s1.heap.IsTuple a its.toArray from p) ?_
  refine ⟨s1.heap.objs.size, [s1.heap.objs.size], _, _, H1, rfl, I1.kept (t' := s1.toks) fun b o e => Heap.get?_push_of_some _ e, turn_tuple a _, ⟨_, Heap.get?_push_size _ rfl, rfl, rfl⟩, fun b hb => ?_, q⟩
  have e : b = s1.heap.objs.size := by simpa using hb
  subst e
  exact I1.fpOk (Nat.le_refl _) (I1.hok.fresh (Nat.le_refl _))
theorem range_it {pins : List (Addr × Obj)} {σ : St} {H : Hp} {s : Shared} {R : It → Hp → Prop} {E : Value → Shared → Prop} {lo hi : Int} {t u v : Tok} {tk : Nat} (I : Inv X pins σ H s) (h1 : -(2 ^ 62) ≤ lo) (h2 : lo < 2 ^ 62) (h3 : -(2 ^ 62) ≤ hi) (h4 : hi < 2 ^ 62)
    (q : R (Itr lo (hi - lo).toNat) H) : wpAny (model X.prog X.w) X.A (pyIter (.ref s.heap.objs.size)) (PIE X pins σ tg R) E { s with heap := s.heap.push { cls := .type "range", data := .fields #[.int lo t, .int hi u, .int 1 v] }, toks := tk } := by
  refine wpAny_pyIter_range (IsRange.new ..) (small_one h1 h2 h3 h4) ?_
  have I1 : Inv X pins σ H { s with heap := s.heap.push { cls := .type "range", data := .fields #[.int lo t, .int hi u, .int 1 v] }, toks := tk } := I.kept fun b o e => Heap.get?_push_of_some _ e
  refine ⟨(s.heap.push { cls := .type "range", data := .fields #[.int lo t, .int hi u, .int 1 v] }).objs.size, [(s.heap.push { cls := .type "range", data := .fields #[.int lo t, .int hi u, .int 1 v] }).objs.size], _, _, H, rfl,
    I1.kept (t' := tk) fun b o e => Heap.get?_push_of_some _ e, turn_range _ lo (hi - lo).toNat, ?_, fun b hb => ?_, q⟩
  · have e1 : lo + ((0 : Nat) : Int) * 1 = lo := by simp
    have e2 : (((hi - lo).toNat : Nat) : Int) - ((0 : Nat) : Int) = Builtin.Range.rangeSize lo hi 1 := by rw [rangeSize_one]; split <;> omega
    show IsRangeIter _ _ (lo + ((0 : Nat) : Int) * 1) ((((hi - lo).toNat : Nat) : Int) - ((0 : Nat) : Int)) 1
    rw [e1, e2]
    exact Heap.get?_push_size _ rfl
  · have e : b = (s.heap.push { cls := .type "range", data := .fields #[.int lo t, .int hi u, .int 1 v] }).objs.size := by simpa using hb
    subst e
    exact I1.fpOk (Nat.le_refl _) (I1.hok.fresh (Nat.le_refl _))
def iRng1 (ta : TA) : TI := fun σ H R => ta σ H fun vs H1 => ∃ j : Int, vs = [.int j] ∧ -(2 ^ 62) ≤ j ∧ j < 2 ^ 62 ∧ R (Itr 0 j.toNat) H1
def iRng2 (ta : TA) : TI := fun σ H R => ta σ H fun vs H1 => ∃ i j : Int, vs = [.int i, .int j] ∧ (-(2 ^ 62) ≤ i ∧ i < 2 ^ 62 ∧ -(2 ^ 62) ≤ j ∧ j < 2 ^ 62) ∧ R (Itr i (j - i).toNat) H1
theorem pi_range1 {a : Expr} {ta : TA} {p pos : Pos} (hg : Gl X "range") (hm : X.mg "range" = none) (ha : PA X [a] ta) (hs : starEach [a] X.env = [(false, eval a X.env)] := by rfl) : PI X tg (.Call (.Name "range" p) [a] [] pos) (iRng1 ta) := by
  intro pins s σ H R I h
  refine Call_ (ld_blt I hg hm boot_range (PyProof.Rows.callWith_type1 (thn (ha pos pins s σ H _ I h) fun us s1 ⟨vs, H1, I1, r1, q1⟩ => ?_) hs rfl))
  obtain ⟨j, e, q1, q2, q⟩ := q1
  subst e
  cases r1 with
  | cons r rr =>
    cases rr
    obtain ⟨t, rfl⟩ := r
    exact call_range_1 (range_it I1 (by omega) (by omega) q1 q2 (by simpa using q))
theorem pi_range2 {a b : Expr} {ta : TA} {p pos : Pos} (hg : Gl X "range") (hm : X.mg "range" = none) (ha : PA X [a, b] ta) (hs : starEach [a, b] X.env = [(false, eval a X.env), (false, eval b X.env)] := by rfl) (hs2 : starEach [b] X.env = [(false, eval b X.env)] := by rfl) :
    PI X tg (.Call (.Name "range" p) [a, b] [] pos) (iRng2 ta) := by
  intro pins s σ H R I h
  refine Call_ (ld_blt I hg hm boot_range (PyProof.Rows.callWith_type1 (thn (ha pos pins s σ H _ I h) fun us s1 ⟨vs, H1, I1, r1, q1⟩ => ?_) (by rw [hs, hs2]) (by rw [hs2]; rfl)))
  obtain ⟨i, j, e, ⟨q1, q2, q3, q4⟩, q⟩ := q1
  subst e
  cases r1 with
  | cons r rr =>
    cases rr with
    | cons r' rr =>
      cases rr
      obtain ⟨t, rfl⟩ := r
      obtain ⟨t', rfl⟩ := r'
      exact call_range_2 (range_it I1 q1 q2 q3 q4 q)

def tFor (wi : TI) (g : TG) (tb : TS) : TS := fun D σ H => wi σ H fun J H1 => ∃ W : Nat → Nat → St → Hp → Prop, (∃ m, W 0 m σ H1) ∧ ∀ i m σ H, W i m σ H →
  (J.stop i H ∧ D.nx σ H) ∨ (J.go i H ∧ ∃ N : St → Hp → Prop, (∀ σ' H', N σ' H' → ∃ m', m' < m ∧ W (i + 1) m' σ' H') ∧ ∀ x H', J.yld i H x H' → g x σ H' fun σ2 H2 => tb { D with nx := N, ct := N, bk := D.nx } σ2 H2)
def pinsAt (fp : List Addr) (h : Heap) : List (Addr × Obj) := fp.filterMap fun b => (h.get? b).map fun o => (b, o)
theorem mem_pinsAt {fp : List Addr} {h : Heap} {b : Addr} {o : Obj} (hb : b ∈ fp) (e : h.get? b = some o) : (b, o) ∈ pinsAt fp h := List.mem_filterMap.mpr ⟨b, hb, by rw [e]; rfl⟩
theorem of_pinsAt {fp : List Addr} {h : Heap} {p : Addr × Obj} (hp : p ∈ pinsAt fp h) : p.1 ∈ fp ∧ h.get? p.1 = some p.2 := by
  obtain ⟨b, hb, e⟩ := List.mem_filterMap.mp hp
  cases q : h.get? b with
  | none => rw [q] at e; cases e
  | some o =>
    rw [q] at e
    have e' : (b, o) = p := Option.some.inj e
    subst e'
    exact ⟨hb, q⟩
theorem Inv.pinned {pins : List (Addr × Obj)} {σ : St} {H : Hp} {s : Shared} {fp : List Addr} (I : Inv X pins σ H s) (hf : ∀ b ∈ fp, FpOk X pins H b) (ho : ∀ b ∈ fp, ∃ o, s.heap.get? b = some o ∧ ∀ v, o.data ≠ .cell v) : Inv X (pins ++ pinsAt fp s.heap) σ H s :=
  I.pins_of fun p hp => (List.mem_append.mp hp).elim (fun z => I.pin p (List.mem_append_right _ z)) fun z => by
    obtain ⟨hb, e⟩ := of_pinsAt z
    obtain ⟨f0, f1, f2, _⟩ := hf p.1 hb
    obtain ⟨o, e', d⟩ := ho p.1 hb
    rw [e] at e'; cases e'
    exact ⟨e, f0, f1, f2, d⟩
theorem Inv.unpinned {pins pl : List (Addr × Obj)} {σ : St} {H : Hp} {s : Shared} (I : Inv X (pins ++ pl) σ H s) : Inv X pins σ H s := I.pins_of fun p hp => I.pin p (List.mem_append_right _ (List.mem_append_left _ hp))
theorem ps_for {iter : Expr} {body : List Stmt} {wi : TI} {g : TG} {tb : TS} {pos : Pos} (hp : PassesOwn (model X.prog X.w) X.A X.env X.xe) (hc : X.calm = true) (hi : PI X tg iter wi) (hg : PG X tg g) (hb : PSs X body tb)
    (hs : ∀ x, foldedSetIterable iter X.env x = pure x := by intro _; rfl) : PS X (.For tg iter body [] pos) (tFor wi g tb) := by
  intro pins s σ H D I h
  refine wpAny_For (thn (hi pins s σ H _ I h) fun v s1 h1 => thn h1 fun itv s2 h2 => ?_) hs
  obtain ⟨it, fp, tn, J, H2, e, I2, T, st2, f2, W, ⟨m0, w0⟩, turn⟩ := h2
  subst e
  have stat : ∀ {H' : Hp}, (∀ b ∈ fp, H' b = none) → ∀ b ∈ fp, FpOk X pins H' b := fun hn b hb => ⟨hn b hb, (f2 b hb).2⟩
  refine codeAny_forLoop_any (fun n s' => ∃ i σ' H', Inv X pins σ' H' s' ∧ tn i s'.heap ∧ (∀ b ∈ fp, H' b = none) ∧ W i n σ' H') ?_ m0 ⟨0, σ, H2, I2, st2, fun b hb => (f2 b hb).1, w0⟩
  rintro n s3 ⟨i, σ3, H3, I3, st3, fr3, w3⟩
  rcases turn i n σ3 H3 w3 with ⟨stop, qn⟩ | ⟨go, N, hN, step⟩
  · refine wpAny_passesOwn hp (thn (T.done X rfl rfl rfl hc i pins s3 σ3 H3 X.xe I3 (stat fr3) st3 stop) fun r s4 ⟨hr, I4⟩ => ?_)
    subst hr
    exact wpAny_execs_nil ⟨σ3, H3, I4, qn⟩
  · refine wpAny_passesOwn hp (thn (T.item X rfl rfl rfl hc i pins s3 σ3 H3 X.xe I3 (stat fr3) st3 go) fun r s4 ⟨u, hr, h4⟩ => ?_)
    subst hr
    refine wpAny_passesOwn hp (thn h4 fun _ s5 ⟨x, H5, I5, r5, y5, st5, fr5⟩ => ?_)
    have I5' := I5.pinned (stat fr5) (T.obj _ _ st5)
    refine wpAny_passesOwn hp (thn (hg _ s5 σ3 H5 x u _ I5' r5 (step x H5 y5)) fun _ s6 ⟨σ6, H6, I6, q6⟩ => ?_)
    refine wpAny_passesOwn hp (thn (hb _ s6 σ6 H6 _ I6 q6) fun f s7 q7 => ?_)
    have again : ∀ {σ7 : St} {H7 : Hp}, Inv X (pins ++ pinsAt fp s5.heap) σ7 H7 s7 → N σ7 H7 → ∃ m, m < n ∧ ∃ i σ' H', Inv X pins σ' H' s7 ∧ tn i s7.heap ∧ (∀ b ∈ fp, H' b = none) ∧ W i m σ' H' := fun {σ7 H7} I7 n7 => by
      obtain ⟨m', hm, w7⟩ := hN σ7 H7 n7
      refine ⟨m', hm, i + 1, σ7, H7, I7.unpinned, T.keep _ _ _ st5 fun b hb o e => (I7.pin (b, o) (List.mem_append_right _ (List.mem_append_right _ (mem_pinsAt hb e)))).1, fun b hb => ?_, w7⟩
      obtain ⟨o, e, d⟩ := T.obj _ _ st5 b hb
      exact (I7.pin (b, o) (List.mem_append_right _ (List.mem_append_right _ (mem_pinsAt hb e)))).2.1
    cases f with
    | next => obtain ⟨σ7, H7, I7, n7⟩ := q7; exact again I7 n7
    | cont => obtain ⟨σ7, H7, I7, n7⟩ := q7; exact again I7 n7
    | brk => obtain ⟨σ7, H7, I7, q7⟩ := q7; exact ⟨σ7, H7, I7.unpinned, q7⟩
    | ret v => obtain ⟨x7, σ7, H7, I7, r7, q7⟩ := q7; exact ⟨x7, σ7, H7, I7.unpinned, r7, q7⟩
end

theorem for_list {K : PySem.W.Frag} {a : Addr} {xs : List V} {g : TG} {tb : TS} {D : Ends} {σ : St} {H : Hp} (Pv : Nat → St → Hp → Prop) (h0 : Pv 0 σ H) (hl : ∀ i σ H, i ≤ xs.length → Pv i σ H → SqL K H a xs)
    (hs : ∀ i x σ H, xs[i]? = some x → Pv i σ H → g x σ H fun σ2 H2 => tb { D with nx := Pv (i + 1), ct := Pv (i + 1), bk := D.nx } σ2 H2) (hd : ∀ σ H, Pv xs.length σ H → D.nx σ H) :
    ∃ W : Nat → Nat → St → Hp → Prop, (∃ m, W 0 m σ H) ∧ ∀ i m σ H, W i m σ H →
      ((Itl K a).stop i H ∧ D.nx σ H) ∨ ((Itl K a).go i H ∧ ∃ N : St → Hp → Prop, (∀ σ' H', N σ' H' → ∃ m', m' < m ∧ W (i + 1) m' σ' H') ∧ ∀ x H', (Itl K a).yld i H x H' → g x σ H' fun σ2 H2 => tb { D with nx := N, ct := N, bk := D.nx } σ2 H2) := by
  refine ⟨fun i m σ H => m = xs.length - i ∧ i ≤ xs.length ∧ Pv i σ H, ⟨xs.length, by simp, Nat.zero_le _, h0⟩, ?_⟩
  rintro i m σ H ⟨rfl, hi, p⟩
  have q := hl i σ H hi p
  by_cases hlt : i < xs.length
  · refine .inr ⟨⟨xs, xs[i], q, by simp [hlt]⟩, Pv (i + 1), fun σ' H' p' => ⟨xs.length - (i + 1), by omega, rfl, hlt, p'⟩, fun x H' y => ?_⟩
    obtain ⟨e, y⟩ := y
    subst e
    exact hs i x σ _ (y xs q) p
  · have e : i = xs.length := by omega
    subst e
    exact .inl ⟨⟨xs, q, Nat.le_refl _⟩, hd σ H p⟩
theorem for_tup {K : PySem.W.Frag} {a : Addr} {xs : List V} {g : TG} {tb : TS} {D : Ends} {σ : St} {H : Hp} (Pv : Nat → St → Hp → Prop) (h0 : Pv 0 σ H) (hl : ∀ i σ H, i ≤ xs.length → Pv i σ H → SqT K H a xs)
    (hs : ∀ i x σ H, xs[i]? = some x → Pv i σ H → g x σ H fun σ2 H2 => tb { D with nx := Pv (i + 1), ct := Pv (i + 1), bk := D.nx } σ2 H2) (hd : ∀ σ H, Pv xs.length σ H → D.nx σ H) :
    ∃ W : Nat → Nat → St → Hp → Prop, (∃ m, W 0 m σ H) ∧ ∀ i m σ H, W i m σ H →
      ((Itt K a).stop i H ∧ D.nx σ H) ∨ ((Itt K a).go i H ∧ ∃ N : St → Hp → Prop, (∀ σ' H', N σ' H' → ∃ m', m' < m ∧ W (i + 1) m' σ' H') ∧ ∀ x H', (Itt K a).yld i H x H' → g x σ H' fun σ2 H2 => tb { D with nx := N, ct := N, bk := D.nx } σ2 H2) := by
  refine ⟨fun i m σ H => m = xs.length - i ∧ i ≤ xs.length ∧ Pv i σ H, ⟨xs.length, by simp, Nat.zero_le _, h0⟩, ?_⟩
  rintro i m σ H ⟨rfl, hi, p⟩
  have q := hl i σ H hi p
  by_cases hlt : i < xs.length
  · refine .inr ⟨⟨xs, xs[i], q, by simp [hlt]⟩, Pv (i + 1), fun σ' H' p' => ⟨xs.length - (i + 1), by omega, rfl, hlt, p'⟩, fun x H' y => ?_⟩
    obtain ⟨e, y⟩ := y
    subst e
    exact hs i x σ _ (y xs q) p
  · have e : i = xs.length := by omega
    subst e
    exact .inl ⟨⟨xs, q, Nat.le_refl _⟩, hd σ H p⟩
theorem for_range {lo : Int} {n : Nat} {g : TG} {tb : TS} {D : Ends} {σ : St} {H : Hp} (Pv : Nat → St → Hp → Prop) (h0 : Pv 0 σ H)
    (hs : ∀ i σ H, i < n → Pv i σ H → g (.int (lo + i)) σ H fun σ2 H2 => tb { D with nx := Pv (i + 1), ct := Pv (i + 1), bk := D.nx } σ2 H2) (hd : ∀ σ H, Pv n σ H → D.nx σ H) :
    ∃ W : Nat → Nat → St → Hp → Prop, (∃ m, W 0 m σ H) ∧ ∀ i m σ H, W i m σ H →
      ((Itr lo n).stop i H ∧ D.nx σ H) ∨ ((Itr lo n).go i H ∧ ∃ N : St → Hp → Prop, (∀ σ' H', N σ' H' → ∃ m', m' < m ∧ W (i + 1) m' σ' H') ∧ ∀ x H', (Itr lo n).yld i H x H' → g x σ H' fun σ2 H2 => tb { D with nx := N, ct := N, bk := D.nx } σ2 H2) := by
  refine ⟨fun i m σ H => m = n - i ∧ i ≤ n ∧ Pv i σ H, ⟨n, by simp, Nat.zero_le _, h0⟩, ?_⟩
  rintro i m σ H ⟨rfl, hi, p⟩
  by_cases hlt : i < n
  · refine .inr ⟨hlt, Pv (i + 1), fun σ' H' p' => ⟨n - (i + 1), by omega, rfl, hlt, p'⟩, fun x H' y => ?_⟩
    obtain ⟨e, y⟩ := y
    subst e y
    exact hs i σ _ hlt p
  · have e : i = n := by omega
    subst e
    exact .inl ⟨Nat.le_refl _, hd σ H p⟩
theorem while_by {c : TT} {tb : TS} {D : Ends} {σ : St} {H : Hp} (Pv : St → Hp → Prop) (μ : St → Hp → Nat) (h0 : Pv σ H)
    (hs : ∀ σ H, Pv σ H → c σ H fun b H1 => if b = true then tb { D with nx := fun σ' H' => Pv σ' H' ∧ μ σ' H' < μ σ H, ct := fun σ' H' => Pv σ' H' ∧ μ σ' H' < μ σ H, bk := D.nx } σ H1 else D.nx σ H1)
    (mono : ∀ σ H Q Q', (∀ b H1, Q b H1 → Q' b H1) → c σ H Q → c σ H Q') : tWhile c tb D σ H := by
  refine ⟨fun m σ H => m = μ σ H ∧ Pv σ H, ⟨_, rfl, h0⟩, ?_⟩
  rintro m σ H ⟨rfl, p⟩
  refine mono σ H _ _ (fun b H1 q => ?_) (hs σ H p)
  cases b with
  | true => exact ⟨_, fun σ' H' ⟨p', l⟩ => ⟨_, l, rfl, p'⟩, q⟩
  | false => exact q
end L2

namespace L2
open PySem PySem.Spec PyProof.Rows

abbrev R2 := V → V → Hp → VK → Prop
def OpR (X : Cx) (f : Value → Value → Sem Value) (r : R2) : Prop :=
  ∀ (pins : List (Addr × Obj)) (s : Shared) (σ : St) (H : Hp) (x y : V) (v u : Value) (Q : VK), Inv X pins σ H s → RelV x v → RelV y u → r x y H Q →
    wpAny (model X.prog X.w) X.A (f v u) (EP X pins σ Q) X.xe s
def UnR (X : Cx) (f : Value → Sem Value) (r : V → Hp → VK → Prop) : Prop :=
  ∀ (pins : List (Addr × Obj)) (s : Shared) (σ : St) (H : Hp) (x : V) (v : Value) (Q : VK), Inv X pins σ H s → RelV x v → r x H Q →
    wpAny (model X.prog X.w) X.A (f v) (EP X pins σ Q) X.xe s
def CallR (X : Cx) (f : Value) (r : List V → Hp → VK → Prop) : Prop :=
  ∀ (pins : List (Addr × Obj)) (s : Shared) (σ : St) (H : Hp) (xs : List V) (us : List Value) (Q : VK), Inv X pins σ H s → Vals xs us → r xs H Q →
    wpAny (model X.prog X.w) X.A (call f us) (EP X pins σ Q) X.xe s
def TruR (X : Cx) (r : V → Hp → (Bool → Hp → Prop) → Prop) : Prop :=
  ∀ (pins : List (Addr × Obj)) (s : Shared) (σ : St) (H : Hp) (x : V) (v : Value) (Q : Bool → Hp → Prop), Inv X pins σ H s → RelV x v → r x H Q →
    wpAny (model X.prog X.w) X.A (truthy v) (TP X pins σ Q) X.xe s

def tOp (r : R2) (ta tb : TE) : TE := fun σ H Q => ta σ H fun x H1 => tb σ H1 fun y H2 => r x y H2 Q
def tUn (r : V → Hp → VK → Prop) (ta : TE) : TE := fun σ H Q => ta σ H fun x H1 => r x H1 Q
def rI (C : Int → Int → Prop) (g : Int → Int → V) : R2 := fun x y H Q => ∃ i j, x = .int i ∧ y = .int j ∧ C i j ∧ Q (g i j) H
def rI0 (g : Int → Int → V) : R2 := fun x y H Q => ∃ i j, x = .int i ∧ y = .int j ∧ Q (g i j) H
def rU (g : Int → V) : V → Hp → VK → Prop := fun x H Q => ∃ i, x = .int i ∧ Q (g i) H

section
variable {X : Cx} {a b c : Expr} {ta tb tc : TE} {pos : Pos}

theorem binT (ha : PE X a ta) (hb : PE X b tb) {pins : List (Addr × Obj)} {s : Shared} {σ : St} {H : Hp} {R : V → V → Hp → Prop} (I : Inv X pins σ H s)
    (h : ta σ H fun x H1 => tb σ H1 fun y H2 => R x y H2) {Q : Value → Shared → Prop} {f : Value → Value → Sem Value}
    (hf : ∀ v u s2 x y H2, Inv X pins σ H2 s2 → RelV x v → RelV y u → R x y H2 → wpAny (model X.prog X.w) X.A (f v u) Q X.xe s2) :
    wpAny (model X.prog X.w) X.A (eval a X.env) (fun v s₁ => wpAny (model X.prog X.w) X.A (eval b X.env) (fun u s₂ => wpAny (model X.prog X.w) X.A (f v u) Q X.xe s₂) X.xe s₁) X.xe s := by
  refine thn (ha pins s σ H _ I h) fun v s1 ⟨x, H1, I1, r1, q1⟩ => ?_
  refine thn (hb pins s1 σ H1 _ I1 q1) fun u s2 ⟨y, H2, I2, r2, q2⟩ => ?_
  exact hf v u s2 x y H2 I2 r1 r2 q2

theorem pe_op {op : Operator} {r : R2} (ho : OpR X (binaryOp op) r) (ha : PE X a ta) (hb : PE X b tb) : PE X (.BinOp a op b pos) (tOp r ta tb) := by
  intro pins s σ H Q I h
  exact wpAny_BinOp (binT ha hb I h fun v u s2 x y H2 I2 rx ry q => ho pins s2 σ H2 x y v u Q I2 rx ry q)
theorem pe_un {op : UnaryOp} {r : V → Hp → VK → Prop} (ho : UnR X (unaryOp op) r) (ha : PE X a ta) : PE X (.UnaryOp op a pos) (tUn r ta) := by
  intro pins s σ H Q I h
  exact UnaryOp_ (thn (ha pins s σ H _ I h) fun v s1 ⟨x, H1, I1, r1, q1⟩ => ho pins s1 σ H1 x v Q I1 r1 q1)
theorem augR {op : Operator} {r : R2} (ho : OpR X (inplaceOp op) r) {pins : List (Addr × Obj)} {s : Shared} {σ : St} {H : Hp} {x y : V} {v u : Value} {Q : VK} (I : Inv X pins σ H s)
    (rx : RelV x v) (ry : RelV y u) (q : r x y H Q) : wpAny (model X.prog X.w) X.A (inplaceOp op v u) (EP X pins σ Q) X.xe s := ho pins s σ H x y v u Q I rx ry q

theorem opI {f : Value → Value → Sem Value} {C : Int → Int → Prop} {g : Int → Int → Int}
    (rule : ∀ (i j : Int) (t u : Tok) (s : Shared) (Q : Value → Shared → Prop) (E : Value → Shared → Prop), C i j → Q (.int (g i j) s.toks) { s with toks := s.toks + 1 } → wpAny (model X.prog X.w) X.A (f (.int i t) (.int j u)) Q E s) :
    OpR X f (rI C fun i j => .int (g i j)) := by
  intro pins s σ H x y v u Q I rx ry h
  obtain ⟨i, j, rfl, rfl, hc, q⟩ := h
  obtain ⟨t, rfl⟩ := rx
  obtain ⟨t', rfl⟩ := ry
  exact rule i j t t' s _ _ hc ⟨.int (g i j), H, I.tok _, ⟨_, rfl⟩, q⟩
theorem opI0 {f : Value → Value → Sem Value} {g : Int → Int → Int}
    (rule : ∀ (i j : Int) (t u : Tok) (s : Shared) (Q : Value → Shared → Prop) (E : Value → Shared → Prop), Q (.int (g i j) s.toks) { s with toks := s.toks + 1 } → wpAny (model X.prog X.w) X.A (f (.int i t) (.int j u)) Q E s) :
    OpR X f (rI0 fun i j => .int (g i j)) := by
  intro pins s σ H x y v u Q I rx ry h
  obtain ⟨i, j, rfl, rfl, q⟩ := h
  obtain ⟨t, rfl⟩ := rx
  obtain ⟨t', rfl⟩ := ry
  exact rule i j t t' s _ _ ⟨.int (g i j), H, I.tok _, ⟨_, rfl⟩, q⟩
theorem opB0 {f : Value → Value → Sem Value} {g : Int → Int → Bool}
    (rule : ∀ (i j : Int) (t u : Tok) (s : Shared) (Q : Value → Shared → Prop) (E : Value → Shared → Prop), Q (.bool (g i j)) s → wpAny (model X.prog X.w) X.A (f (.int i t) (.int j u)) Q E s) :
    OpR X f (rI0 fun i j => .bl (g i j)) := by
  intro pins s σ H x y v u Q I rx ry h
  obtain ⟨i, j, rfl, rfl, q⟩ := h
  obtain ⟨t, rfl⟩ := rx
  obtain ⟨t', rfl⟩ := ry
  exact rule i j t t' s _ _ ⟨.bl (g i j), H, I, rfl, q⟩

def CDiv (i j : Int) : Prop := 0 < j ∧ j < 1073741824
def CDivN (i j : Int) : Prop := j ≠ 0 ∧ j.natAbs < 1073741824
def CPow (i j : Int) : Prop := 0 ≤ j ∧ j ≤ 1000000 ∧ i.natAbs < 2 ^ 64
def CMul (i j : Int) : Prop := (-(2 ^ 64) < i ∧ i < 2 ^ 64) ∨ (-(2 ^ 64) < j ∧ j < 2 ^ 64)
theorem CMul.ok {i j : Int} (h : CMul i j) : IntMulOk i j := by
  rcases h with ⟨h1, h2⟩ | ⟨h1, h2⟩
  · exact .of_left (intBits_le_64 h1 h2)
  · exact .of_right (intBits_le_64 h1 h2)
theorem two_pow_nn (k : Nat) : (0 : Int) ≤ 2 ^ k := by
  rw [two_pow_cast]
  exact Int.natCast_nonneg _

theorem op_add : OpR X (binaryOp .Add) (rI0 fun i j => .int (i + j)) := opI0 fun _ _ _ _ _ _ _ q => add_int q
theorem op_sub : OpR X (binaryOp .Sub) (rI0 fun i j => .int (i - j)) := opI0 fun _ _ _ _ _ _ _ q => sub_int q
theorem op_mul : OpR X (binaryOp .Mult) (rI CMul fun i j => .int (i * j)) := opI fun _ _ _ _ _ _ _ hc q => mul_int q hc.ok
theorem op_fdiv : OpR X (binaryOp .FloorDiv) (rI CDiv fun i j => .int (i / j)) := opI fun i j _ _ _ _ _ hc q => by
  have h1 : (0 : Int) < j := hc.1
  have h2 : j < 1073741824 := hc.2
  exact floordiv_int (by omega) (by rw [Int.fdiv_eq_ediv_of_nonneg i (by omega)]; exact q) (.inl (PyProof.noPylong_small (by omega)))
theorem op_fdivN : OpR X (binaryOp .FloorDiv) (rI CDivN fun i j => .int (i.fdiv j)) := opI fun _ _ _ _ _ _ _ hc q => floordiv_int hc.1 q (.inl (PyProof.noPylong_small hc.2))
theorem op_mod : OpR X (binaryOp .Mod) (rI (fun _ j => 0 < j) fun i j => .int (i % j)) := opI fun i j _ _ _ _ _ hc q => by
  have h1 : (0 : Int) < j := hc
  exact mod_int' (by omega) (by rw [Int.fmod_eq_emod_of_nonneg i (by omega)]; exact q)
theorem op_modN : OpR X (binaryOp .Mod) (rI (fun _ j => j ≠ 0) fun i j => .int (i.fmod j)) := opI fun _ _ _ _ _ _ _ hc q => mod_int' hc q
theorem op_pow : OpR X (binaryOp .Pow) (rI CPow fun i j => .int (i ^ j.toNat)) := opI fun _ _ _ _ _ _ _ hc q => pow_int_small hc.1 hc.2.1 hc.2.2 q
theorem op_shl : OpR X (binaryOp .LShift) (rI CPow fun i j => .int (i * 2 ^ j.toNat)) := opI fun _ _ _ _ _ _ _ hc q => lshift_int_small hc.1 hc.2.1 hc.2.2 q
theorem op_shr : OpR X (binaryOp .RShift) (rI (fun _ j => 0 ≤ j) fun i j => .int (i / 2 ^ j.toNat)) := opI fun i j _ _ _ _ _ hc q =>
  rshift_int hc (by rw [Int.fdiv_eq_ediv_of_nonneg i (two_pow_nn _)]; exact q)
theorem op_and : OpR X (binaryOp .BitAnd) (rI0 fun i j => .int (Builtin.bitAnd i j)) := opI0 fun _ _ _ _ _ _ _ q => and_int q
theorem op_or : OpR X (binaryOp .BitOr) (rI0 fun i j => .int (Builtin.bitOr i j)) := opI0 fun _ _ _ _ _ _ _ q => or_int q
theorem op_xor : OpR X (binaryOp .BitXor) (rI0 fun i j => .int (Builtin.bitXor i j)) := opI0 fun _ _ _ _ _ _ _ q => xor_int q

theorem iop_add : OpR X (inplaceOp .Add) (rI0 fun i j => .int (i + j)) := opI0 fun _ _ _ _ _ _ _ q => iadd_int q
theorem iop_sub : OpR X (inplaceOp .Sub) (rI0 fun i j => .int (i - j)) := opI0 fun _ _ _ _ _ _ _ q => isub_int q
theorem iop_mul : OpR X (inplaceOp .Mult) (rI CMul fun i j => .int (i * j)) := opI fun _ _ _ _ _ _ _ hc q => imul_int q hc.ok
theorem iop_fdiv : OpR X (inplaceOp .FloorDiv) (rI CDiv fun i j => .int (i / j)) := opI fun i j _ _ _ _ _ hc q => by
  have h1 : (0 : Int) < j := hc.1
  have h2 : j < 1073741824 := hc.2
  exact ifloordiv_int (by omega) (by rw [Int.fdiv_eq_ediv_of_nonneg i (by omega)]; exact q) (.inl (PyProof.noPylong_small (by omega)))
theorem iop_mod : OpR X (inplaceOp .Mod) (rI (fun _ j => 0 < j) fun i j => .int (i % j)) := opI fun i j _ _ _ _ _ hc q => by
  have h1 : (0 : Int) < j := hc
  exact imod_int (by omega) (by rw [Int.fmod_eq_emod_of_nonneg i (by omega)]; exact q)
theorem iop_shl : OpR X (inplaceOp .LShift) (rI CPow fun i j => .int (i * 2 ^ j.toNat)) := opI fun _ _ _ _ _ _ _ hc q => ilshift_int_small hc.1 hc.2.1 hc.2.2 q
theorem iop_shr : OpR X (inplaceOp .RShift) (rI (fun _ j => 0 ≤ j) fun i j => .int (i / 2 ^ j.toNat)) := opI fun i j _ _ _ _ _ hc q =>
  irshift_int hc (by rw [Int.fdiv_eq_ediv_of_nonneg i (two_pow_nn _)]; exact q)
theorem iop_and : OpR X (inplaceOp .BitAnd) (rI0 fun i j => .int (Builtin.bitAnd i j)) := opI0 fun _ _ _ _ _ _ _ q => iand_int q
theorem iop_or : OpR X (inplaceOp .BitOr) (rI0 fun i j => .int (Builtin.bitOr i j)) := opI0 fun _ _ _ _ _ _ _ q => ior_int q
theorem iop_xor : OpR X (inplaceOp .BitXor) (rI0 fun i j => .int (Builtin.bitXor i j)) := opI0 fun _ _ _ _ _ _ _ q => ixor_int q

theorem unI {f : Value → Sem Value} {g : Int → Int}
    (rule : ∀ (i : Int) (t : Tok) (s : Shared) (Q : Value → Shared → Prop) (E : Value → Shared → Prop), Q (.int (g i) s.toks) { s with toks := s.toks + 1 } → wpAny (model X.prog X.w) X.A (f (.int i t)) Q E s) :
    UnR X f (rU fun i => .int (g i)) := by
  intro pins s σ H x v Q I rx h
  obtain ⟨i, rfl, q⟩ := h
  obtain ⟨t, rfl⟩ := rx
  exact rule i t s _ _ ⟨.int (g i), H, I.tok _, ⟨_, rfl⟩, q⟩
theorem un_neg : UnR X (unaryOp .USub) (rU fun i => .int (-i)) := unI fun _ _ _ _ _ q => neg_int q
theorem un_inv : UnR X (unaryOp .Invert) (rU fun i => .int (Builtin.bitNot i)) := unI fun _ _ _ _ _ q => invert_int q

theorem op_add_ib : OpR X (binaryOp .Add) (fun x y H Q => ∃ i k, x = .int i ∧ y = .bl k ∧ Q (.int (i + b2i k)) H) := by
  intro pins s σ H x y v u Q I rx ry h
  obtain ⟨i, k, rfl, rfl, q⟩ := h
  obtain ⟨t, rfl⟩ := rx
  cases ry
  exact add_int_bool ⟨.int (i + b2i k), H, I.tok _, ⟨_, rfl⟩, q⟩
end

def scal : V → V → Bool
  | .non, .non => true | .non, .int _ => true | .int _, .non => true | .non, .bl _ => true | .bl _, .non => true | .non, .str _ => true | .str _, .non => true
  | .int _, .int _ => true | .bl _, .bl _ => true | .str _, .str _ => true | .byt _, .byt _ => true
  | .int _, .str _ => true | .str _, .int _ => true | .bl _, .str _ => true | .str _, .bl _ => true
  | _, _ => false
def rEq : R2 := fun x y H Q => scal x y = true ∧ Q (.bl (decide (x = y))) H
def rNe : R2 := fun x y H Q => scal x y = true ∧ Q (.bl (!decide (x = y))) H

theorem dec_int {i j : Int} : decide (V.int i = V.int j) = (i == j) := by
  rw [Bool.eq_iff_iff]
  simp
theorem dec_bl {i j : Bool} : decide (V.bl i = V.bl j) = (i == j) := by
  rw [Bool.eq_iff_iff]
  simp
theorem dec_str {i j : Str} : decide (V.str i = V.str j) = (i == j) := by
  rw [Bool.eq_iff_iff]
  simp
theorem dec_byt {i j : Array UInt8} : decide (V.byt i = V.byt j) = (i.toList == j.toList) := by
  rw [Bool.eq_iff_iff]
  cases i
  cases j
  simp

section
variable {X : Cx} {a b c : Expr} {ta tb tc : TE} {pos : Pos}
theorem fin_bl {pins : List (Addr × Obj)} {σ : St} {H : Hp} {s : Shared} {Q : VK} {k k' : Bool} (I : Inv X pins σ H s) (q : Q (.bl k) H) (e : k = k') : EP X pins σ Q (.bool k') s := by
  subst e
  exact ⟨.bl k, H, I, rfl, q⟩
theorem op_eq : OpR X (compareOp .Eq) rEq := by
  intro pins s σ H x y v u Q I rx ry h
  obtain ⟨hs, q⟩ := h
  cases x with
  | non =>
    cases rx
    cases y with
    | non => cases ry; exact PySem.EqNone.eq_none_none (fin_bl I q (by simp))
    | bl j => cases ry; exact PySem.EqNone.eq_none_bool (fin_bl I q (by simp))
    | int j => obtain ⟨t', rfl⟩ := ry; exact PySem.EqNone.eq_none_int (fin_bl I q (by simp))
    | str j => obtain ⟨t', rfl⟩ := ry; exact PySem.EqNone.eq_none_str (fin_bl I q (by simp))
    | _ => exact absurd (show false = true from hs) Bool.false_ne_true
  | bl i =>
    cases rx
    cases y with
    | non => cases ry; exact PySem.EqNone.eq_bool_none (fin_bl I q (by simp))
    | bl j => cases ry; exact eq_bool (fin_bl I q dec_bl)
    | str j => obtain ⟨t', rfl⟩ := ry; exact PySem.EqMixed.eq_bool_str (fin_bl I q (by simp))
    | _ => exact absurd (show false = true from hs) Bool.false_ne_true
  | int i =>
    obtain ⟨t, rfl⟩ := rx
    cases y with
    | non => cases ry; exact PySem.EqNone.eq_int_none (fin_bl I q (by simp))
    | int j => obtain ⟨t', rfl⟩ := ry; exact eq_int (fin_bl I q dec_int)
    | str j => obtain ⟨t', rfl⟩ := ry; exact PySem.EqMixed.eq_int_str (fin_bl I q (by simp))
    | _ => exact absurd (show false = true from hs) Bool.false_ne_true
  | str i =>
    obtain ⟨t, rfl⟩ := rx
    cases y with
    | non => cases ry; exact PySem.EqNone.eq_str_none (fin_bl I q (by simp))
    | bl j => cases ry; exact PySem.EqMixed.eq_str_bool (fin_bl I q (by simp))
    | int j => obtain ⟨t', rfl⟩ := ry; exact PySem.EqMixed.eq_str_int (fin_bl I q (by simp))
    | str j => obtain ⟨t', rfl⟩ := ry; exact eq_str (fin_bl I q dec_str)
    | _ => exact absurd (show false = true from hs) Bool.false_ne_true
  | byt i =>
    obtain ⟨t, rfl⟩ := rx
    cases y with
    | byt j => obtain ⟨t', rfl⟩ := ry; exact PySem.W.eq_bytes (fin_bl I q dec_byt)
    | _ => exact absurd (show false = true from hs) Bool.false_ne_true
  | _ => cases y <;> exact absurd (show false = true from hs) Bool.false_ne_true
theorem op_ne : OpR X (compareOp .NotEq) rNe := by
  intro pins s σ H x y v u Q I rx ry h
  obtain ⟨hs, q⟩ := h
  cases x with
  | non =>
    cases rx
    cases y with
    | non => cases ry; exact PySem.EqNone.ne_none_none (fin_bl I q (by simp))
    | bl j => cases ry; exact PySem.EqNone.ne_none_bool (fin_bl I q (by simp))
    | int j => obtain ⟨t', rfl⟩ := ry; exact PySem.EqNone.ne_none_int (fin_bl I q (by simp))
    | str j => obtain ⟨t', rfl⟩ := ry; exact PySem.EqNone.ne_none_str (fin_bl I q (by simp))
    | _ => exact absurd (show false = true from hs) Bool.false_ne_true
  | bl i =>
    cases rx
    cases y with
    | non => cases ry; exact PySem.EqNone.ne_bool_none (fin_bl I q (by simp))
    | bl j => cases ry; exact ne_bool (fin_bl I q (congrArg not dec_bl))
    | str j => obtain ⟨t', rfl⟩ := ry; exact PySem.EqMixed.ne_bool_str (fin_bl I q (by simp))
    | _ => exact absurd (show false = true from hs) Bool.false_ne_true
  | int i =>
    obtain ⟨t, rfl⟩ := rx
    cases y with
    | non => cases ry; exact PySem.EqNone.ne_int_none (fin_bl I q (by simp))
    | int j => obtain ⟨t', rfl⟩ := ry; exact ne_int (fin_bl I q (congrArg not dec_int))
    | str j => obtain ⟨t', rfl⟩ := ry; exact PySem.EqMixed.ne_int_str (fin_bl I q (by simp))
    | _ => exact absurd (show false = true from hs) Bool.false_ne_true
  | str i =>
    obtain ⟨t, rfl⟩ := rx
    cases y with
    | non => cases ry; exact PySem.EqNone.ne_str_none (fin_bl I q (by simp))
    | bl j => cases ry; exact PySem.EqMixed.ne_str_bool (fin_bl I q (by simp))
    | int j => obtain ⟨t', rfl⟩ := ry; exact PySem.EqMixed.ne_str_int (fin_bl I q (by simp))
    | str j => obtain ⟨t', rfl⟩ := ry; exact ne_str (fin_bl I q (congrArg not dec_str))
    | _ => exact absurd (show false = true from hs) Bool.false_ne_true
  | byt i =>
    obtain ⟨t, rfl⟩ := rx
    cases y with
    | byt j => obtain ⟨t', rfl⟩ := ry; exact PySem.W.ne_bytes (fin_bl I q (congrArg not dec_byt))
    | _ => exact absurd (show false = true from hs) Bool.false_ne_true
  | _ => cases y <;> exact absurd (show false = true from hs) Bool.false_ne_true

theorem op_lt : OpR X (compareOp .Lt) (rI0 fun i j => .bl (decide (i < j))) := opB0 fun _ _ _ _ _ _ _ q => lt_int q
theorem op_le : OpR X (compareOp .LtE) (rI0 fun i j => .bl (decide (i ≤ j))) := opB0 fun _ _ _ _ _ _ _ q => le_int q
theorem op_gt : OpR X (compareOp .Gt) (rI0 fun i j => .bl (decide (j < i))) := opB0 fun _ _ _ _ _ _ _ q => gt_int q
theorem op_ge : OpR X (compareOp .GtE) (rI0 fun i j => .bl (decide (j ≤ i))) := opB0 fun _ _ _ _ _ _ _ q => ge_int q
theorem op_lt_str : OpR X (compareOp .Lt) (fun x y H Q => ∃ i j, x = .str i ∧ y = .str j ∧ Q (.bl (decide (i.cps.toList < j.cps.toList))) H) := by
  intro pins s σ H x y v u Q I rx ry h
  obtain ⟨i, j, rfl, rfl, q⟩ := h
  obtain ⟨t, rfl⟩ := rx
  obtain ⟨t', rfl⟩ := ry
  exact lt_str (fin_bl I q rfl)
theorem op_in_str : OpR X (compareOp .In) (fun x y H Q => ∃ i j, x = .str i ∧ y = .str j ∧ Q (.bl (!(Builtin.Str.occurrences j i 0 j.length 1).isEmpty)) H) := by
  intro pins s σ H x y v u Q I rx ry h
  obtain ⟨i, j, rfl, rfl, q⟩ := h
  obtain ⟨t, rfl⟩ := rx
  obtain ⟨t', rfl⟩ := ry
  exact in_str (fin_bl I q rfl)

theorem op_isN : OpR X (compareOp .Is) (fun x y H Q => y = .non ∧ Q (.bl (decide (x = .non))) H) := by
  intro pins s σ H x y v u Q I rx ry h
  obtain ⟨rfl, q⟩ := h
  cases ry
  refine is_none_gen (fin_bl I q ?_)
  cases x <;> first
    | (cases rx; rfl)
    | (obtain ⟨t, rfl⟩ := rx; rfl)
theorem op_notN : OpR X (compareOp .IsNot) (fun x y H Q => y = .non ∧ Q (.bl (!decide (x = .non))) H) := by
  intro pins s σ H x y v u Q I rx ry h
  obtain ⟨rfl, q⟩ := h
  cases ry
  refine isnot_none_gen (fin_bl I q ?_)
  cases x <;> first
    | (cases rx; rfl)
    | (obtain ⟨t, rfl⟩ := rx; rfl)

theorem op_notin_str : OpR X (compareOp .NotIn) (fun x y H Q => ∃ i j, x = .str i ∧ y = .str j ∧ Q (.bl (!(!(Builtin.Str.occurrences j i 0 j.length 1).isEmpty))) H) := by
  intro pins s σ H x y v u Q I rx ry h
  obtain ⟨i, j, rfl, rfl, q⟩ := h
  obtain ⟨t, rfl⟩ := rx
  obtain ⟨t', rfl⟩ := ry
  exact notIn_str (fin_bl I q rfl)
def isObj : HO → Bool
  | .lst _ => true
  | .ins _ _ _ => true
  | _ => false
theorem obj_there {pins : List (Addr × Obj)} {s : Shared} {σ : St} {H : Hp} {a : Addr} {o : HO} (I : Inv X pins σ H s) (h : H a = some o) (p : isObj o = true) : ∃ ob, s.heap.get? a = some ob ∧ ob.cls ≠ .type "tuple" := by
  cases o with
  | lst xs =>
    obtain ⟨_, its, n, _, e⟩ : xs.length ≤ sizeLine ∧ ∃ (its : List Value) (n : Nat), Vals xs its ∧ s.heap.get? a = some { cls := .type "list", data := .seq its.toArray n } := I.hok a _ h
    exact ⟨_, e, (by show Value.type "list" ≠ .type "tuple"; decide +kernel)⟩
  | ins C dx fs =>
    have x := I.hok a _ h
    obtain ⟨_, _, _, e, _⟩ := x
    exact ⟨_, e, (by show Value.ref C ≠ .type "tuple"; exact fun z => by cases z)⟩
  | _ => exact absurd (show false = true from p) Bool.false_ne_true
theorem op_is_ref : OpR X (compareOp .Is) (fun x y H Q => ∃ a b oa ob, x = .ref a ∧ y = .ref b ∧ H a = some oa ∧ isObj oa = true ∧ H b = some ob ∧ isObj ob = true ∧ Q (.bl (decide (a = b))) H) := by
  intro pins s σ H x y v u Q I rx ry h
  obtain ⟨a, b, oa, ob, rfl, rfl, ha, pa, hb, pb, q⟩ := h
  cases rx
  cases ry
  obtain ⟨o1, e1, n1⟩ := obj_there I ha pa
  obtain ⟨o2, e2, _⟩ := obj_there I hb pb
  by_cases z : a = b
  · subst z
    exact wpAny_is_ref_self (fin_bl I q (by simp))
  · exact wpAny_is_ref_other z e1 e2 n1 (fin_bl I q (by simp [z]))
theorem op_isnot_ref : OpR X (compareOp .IsNot) (fun x y H Q => ∃ a b oa ob, x = .ref a ∧ y = .ref b ∧ H a = some oa ∧ isObj oa = true ∧ H b = some ob ∧ isObj ob = true ∧ Q (.bl (!decide (a = b))) H) := by
  intro pins s σ H x y v u Q I rx ry h
  obtain ⟨a, b, oa, ob, rfl, rfl, ha, pa, hb, pb, q⟩ := h
  cases rx
  cases ry
  obtain ⟨o1, e1, n1⟩ := obj_there I ha pa
  obtain ⟨o2, e2, _⟩ := obj_there I hb pb
  by_cases z : a = b
  · subst z
    exact wpAny_isNot_ref_self (fin_bl I q (by simp))
  · exact wpAny_isNot_ref_other z e1 e2 n1 (fin_bl I q (by simp [z]))

theorem OpR.or {f : Value → Value → Sem Value} {r r' : R2} (h : OpR X f r) (h' : OpR X f r') : OpR X f (fun x y H Q => r x y H Q ∨ r' x y H Q) := by
  intro pins s σ H x y v u Q I rx ry q
  rcases q with q | q
  · exact h pins s σ H x y v u Q I rx ry q
  · exact h' pins s σ H x y v u Q I rx ry q

theorem nomark (b : Expr) {op : CmpOp} (h : op ≠ .In := by decide) (h2 : op ≠ .NotIn := by decide) : behindInMarks op b = false := by
  have e1 : (op == CmpOp.In) = false := by cases op <;> first | rfl | exact absurd rfl h
  have e2 : (op == CmpOp.NotIn) = false := by cases op <;> first | rfl | exact absurd rfl h2
  cases b <;> simp [behindInMarks, e1, e2]
theorem pe_cmpR {op : CmpOp} {r : R2} (ho : OpR X (compareOp op) r) (ha : PE X a ta) (hb : PE X b tb) (hm : behindInMarks op b = false) : PE X (.Compare a [op] [b] pos) (tOp r ta tb) := by
  intro pins s σ H Q I h
  exact wpAny_Compare1 (binT ha hb I h fun v u s2 x y H2 I2 rx ry q => ho pins s2 σ H2 x y v u Q I2 rx ry q) hm
def tTest (t : TE) : TT := fun σ H Q => t σ H fun x H' => ∃ k, x = .bl k ∧ Q k H'
theorem pt_cmpR {op : CmpOp} {r : R2} (ho : OpR X (compareOp op) r) (ha : PE X a ta) (hb : PE X b tb) (hm : behindInMarks op b = false) : PT X (.Compare a [op] [b] pos) (tTest (tOp r ta tb)) := by
  intro pins s σ H Q I h
  refine wpAny_isTrue_Compare1 (thn (ha pins s σ H _ I h) fun v s1 ⟨x, H1, I1, r1, q1⟩ => thn (hb pins s1 σ H1 _ I1 q1) fun u s2 ⟨y, H2, I2, r2, q2⟩ =>
    thn (ho pins s2 σ H2 x y v u _ I2 r1 r2 q2) fun c s3 ⟨z, H3, I3, r3, k, e, q3⟩ => ?_) hm
  subst e
  cases r3
  exact wpAny_truthy_bool ⟨H3, I3, q3⟩
def tChain (r r' : R2) (ta tb tc : TE) : TE := fun σ H Q => ta σ H fun x H1 => tb σ H1 fun y H2 => r x y H2 fun z H3 => ∃ k, z = .bl k ∧
  (if k = true then tc σ H3 fun w' H4 => r' y w' H4 Q else Q (.bl false) H3)
theorem pe_chain {op op' : CmpOp} {r r' : R2} (ho : OpR X (compareOp op) r) (ho' : OpR X (compareOp op') r') (ha : PE X a ta) (hb : PE X b tb) (hc : PE X c tc)
    (hm : lastMarks [op, op'] [b, c] = false := by with_unfolding_all rfl) : PE X (.Compare a [op, op'] [b, c] pos) (tChain r r' ta tb tc) := by
  intro pins s σ H Q I h
  refine Compare_chain (thn (ha pins s σ H _ I h) fun v s1 ⟨x, H1, I1, r1, q1⟩ => chain_link (thn (hb pins s1 σ H1 _ I1 q1) fun u s2 ⟨y, H2, I2, r2, q2⟩ =>
    thn (ho pins s2 σ H2 x y v u _ I2 r1 r2 q2) fun d s3 ⟨z, H3, I3, r3, k, e, q3⟩ => ?_)) hm
  subst e
  cases r3
  refine wpAny_truthy_bool ?_
  cases k with
  | false => exact ite_ff ⟨.bl false, H3, I3, rfl, q3⟩
  | true => exact ite_tt (chain_last (thn (hc pins s3 σ H3 _ I3 q3) fun w' s4 ⟨z', H4, I4, r4, q4⟩ => ho' pins s4 σ H4 y z' u w' Q I4 r2 r4 q4))
theorem pt_chain {op op' : CmpOp} {r r' : R2} (ho : OpR X (compareOp op) r) (ho' : OpR X (compareOp op') r') (ha : PE X a ta) (hb : PE X b tb) (hc : PE X c tc)
    (hm : lastMarks [op, op'] [b, c] = false := by with_unfolding_all rfl) : PT X (.Compare a [op, op'] [b, c] pos) (tTest (tChain r r' ta tb tc)) := by
  intro pins s σ H Q I h
  refine isTrue_chain (thn (ha pins s σ H _ I h) fun v s1 ⟨x, H1, I1, r1, q1⟩ => test_link (thn (hb pins s1 σ H1 _ I1 q1) fun u s2 ⟨y, H2, I2, r2, q2⟩ =>
    thn (ho pins s2 σ H2 x y v u _ I2 r1 r2 q2) fun d s3 ⟨z, H3, I3, r3, k, e, q3⟩ => ?_)) hm
  subst e
  cases r3
  refine wpAny_truthy_bool ?_
  cases k with
  | false =>
    obtain ⟨k', e', q'⟩ := q3
    cases e'
    exact ite_ff ⟨H3, I3, q'⟩
  | true =>
    refine ite_tt (test_last (thn (hc pins s3 σ H3 _ I3 q3) fun w' s4 ⟨z', H4, I4, r4, q4⟩ => thn (ho' pins s4 σ H4 y z' u w' _ I4 r2 r4 q4) fun d' s5 ⟨z2, H5, I5, r5, k2, e2, q5⟩ => ?_))
    subst e2
    cases r5
    exact wpAny_truthy_bool ⟨H5, I5, q5⟩

def TruV (K : PySem.W.Frag) (x : V) (H : Hp) (k : Bool) : Prop :=
  match x with
  | .non => k = false
  | .bl b => k = b
  | .int i => k = (i != 0)
  | .str y => y.length ≤ sizeLine ∧ k = ((y.length : Int) != 0)
  | .byt y => y.size ≤ sizeLine ∧ k = ((y.size : Int) != 0)
  | .ref p => (∃ xs, SqL K H p xs ∧ k = !xs.isEmpty) ∨ (∃ xs, SqT K H p xs ∧ k = !xs.isEmpty) ∨ ∃ kvs, H p = some (.dK kvs) ∧ k = !kvs.isEmpty
  | _ => False
theorem isEmpty_kv {κ : Type} {kvs : List (κ × V)} {vs : List (κ × Value)} (r : KV kvs vs) : (!vs.isEmpty) = !kvs.isEmpty := by
  cases r <;> rfl
theorem isEmpty_of {xs : List V} {its : List Value} (r : Vals xs its) : (!its.toArray.isEmpty) = !xs.isEmpty := by
  cases r <;> simp
theorem line63 : (sizeLine : Nat) < 2 ^ 63 := by rw [sizeLine_eq]; decide
theorem tru_ok : TruR X (fun x H Q => ∃ k, TruV X.K x H k ∧ Q k H) := by
  intro pins s σ H x v Q I rx h
  obtain ⟨k, e, q⟩ := h
  have hl := line63
  have hs : sizeLine = 16777216 := sizeLine_eq
  cases x with
  | non =>
    cases rx
    have e' : k = false := e
    subst e'
    exact truthy_none ⟨H, I, q⟩
  | bl b =>
    cases rx
    have e' : k = b := e
    subst e'
    exact wpAny_truthy_bool ⟨H, I, q⟩
  | int i =>
    obtain ⟨t, rfl⟩ := rx
    have e' : k = (i != 0) := e
    subst e'
    exact PySem.P.truthy_int ⟨H, I, q⟩
  | str y =>
    obtain ⟨t, rfl⟩ := rx
    obtain ⟨hy, e'⟩ : y.length ≤ sizeLine ∧ k = ((y.length : Int) != 0) := e
    subst e'
    exact PySem.P.truthy_str (by omega) ⟨H, I.tok _, q⟩
  | byt y =>
    obtain ⟨t, rfl⟩ := rx
    obtain ⟨hy, e'⟩ : y.size ≤ sizeLine ∧ k = ((y.size : Int) != 0) := e
    subst e'
    exact PySem.W.truthy_bytes (by omega) ⟨H, I.tok _, q⟩
  | ref p =>
    cases rx
    have e' : (∃ xs, SqL X.K H p xs ∧ k = !xs.isEmpty) ∨ (∃ xs, SqT X.K H p xs ∧ k = !xs.isEmpty) ∨ ∃ kvs, H p = some (.dK kvs) ∧ k = !kvs.isEmpty := e
    rcases e' with ⟨xs, hx, e'⟩ | ⟨xs, hx, e'⟩ | ⟨kvs, hx, e'⟩
    · subst e'
      obtain ⟨its, r, pl, hz⟩ := I.list hx
      have hlen := r.length
      exact wpAny_truthy_list pl.isList (by simp only [List.size_toArray]; omega) ⟨H, I.tok _, by rw [isEmpty_of r]; exact q⟩
    · subst e'
      obtain ⟨its, r, pl, hz⟩ := I.tuple hx
      have hlen := r.length
      exact truthy_tuple pl (by simp only [List.size_toArray]; omega) ⟨H, I.tok _, by rw [isEmpty_of r]; exact q⟩
    · subst e'
      obtain ⟨hz, hS, vs, r, m⟩ : kvs.length ≤ sizeLine ∧ (p == sysModules) = false ∧ ∃ vs, KV kvs vs ∧ s.heap.DictOf (mixKind X.prog X.w) p vs := I.hok p _ hx
      have hlen : kvs.length = vs.length := Paired.length r
      exact wpAny_truthy_dict hS m (by omega) ⟨H, I.tok _, by rw [isEmpty_kv r]; exact q⟩
  | _ => exact (show False from e).elim
theorem pt_truth (ha : PE X a ta) (he : ∀ whole, isTrue a X.env whole = (do let v ← whole; standAt a.pos; holding [v] (truthy v))) :
    PT X a (fun σ H Q => ta σ H fun x H' => ∃ k, TruV X.K x H' k ∧ Q k H') := by
  intro pins s σ H Q I h
  exact isTrue_plain (thn (ha pins s σ H _ I h) fun v s1 ⟨x, H1, I1, r1, q1⟩ => tru_ok pins s1 σ H1 x v Q I1 r1 q1) (he _)

theorem pe_byt {x : List UInt8} {k : Nat} : PE X (.Constant (.bytes x) k pos) (fun _ H Q => Q (.byt x.toArray) H) := fun _ _ _ H _ I h => PySem.W.Constant_bytes ⟨.byt x.toArray, H, I.tok _, ⟨_, rfl⟩, h⟩
theorem op_add_str : OpR X (binaryOp .Add) (fun x y H Q => ∃ i j, x = .str i ∧ y = .str j ∧ i.length + j.length ≤ sizeLine ∧ Q (.str (i ++ j)) H) := by
  intro pins s σ H x y v u Q I rx ry h
  obtain ⟨i, j, rfl, rfl, hz, q⟩ := h
  obtain ⟨t, rfl⟩ := rx
  obtain ⟨t', rfl⟩ := ry
  exact add_str (fun t' tk => ⟨.str (i ++ j), H, I.tok _, ⟨_, rfl⟩, q⟩) hz
theorem iop_add_str : OpR X (inplaceOp .Add) (fun x y H Q => ∃ i j, x = .str i ∧ y = .str j ∧ i.length + j.length ≤ sizeLine ∧ Q (.str (i ++ j)) H) := by
  intro pins s σ H x y v u Q I rx ry h
  obtain ⟨i, j, rfl, rfl, hz, q⟩ := h
  obtain ⟨t, rfl⟩ := rx
  obtain ⟨t', rfl⟩ := ry
  exact iadd_str (fun t' tk => ⟨.str (i ++ j), H, I.tok _, ⟨_, rfl⟩, q⟩) hz
theorem op_add_byt : OpR X (binaryOp .Add) (fun x y H Q => ∃ i j, x = .byt i ∧ y = .byt j ∧ i.size + j.size ≤ 16777216 ∧ Q (.byt (i ++ j)) H) := by
  intro pins s σ H x y v u Q I rx ry h
  obtain ⟨i, j, rfl, rfl, hz, q⟩ := h
  obtain ⟨t, rfl⟩ := rx
  obtain ⟨t', rfl⟩ := ry
  exact PySem.W.KBy.add_bytes hz (fun t' tk => ⟨.byt (i ++ j), H, I.tok _, ⟨_, rfl⟩, q⟩)

def PlainIxT (b : Expr) : Prop := ∀ o i, subscripted b false o i = operate [o, i] (getItem o i)
theorem pe_item_str (ha : PE X a ta) (hb : PE X b tb) (hs : PlainIxT b) :
    PE X (.Subscript a b pos) (tOp (fun x y H Q => ∃ z i c, x = .str z ∧ y = .int i ∧ 0 ≤ i ∧ i < 2 ^ 63 ∧ i < z.length ∧ z.cps[i.toNat]? = some c ∧ Q (.str ⟨#[c]⟩) H) ta tb) := by
  intro pins s σ H Q I h
  refine Subscript_ (binT ha hb I h fun v u s2 x y H2 I2 rx ry q => ?_)
  obtain ⟨z, i, c, rfl, rfl, h0, h63, h1, hc, q⟩ := q
  obtain ⟨t, rfl⟩ := rx
  obtain ⟨t', rfl⟩ := ry
  have e : seqIndex? i z.length = some i.toNat := PySem.StrLaws.seqIndex_nonneg h0 h1
  exact tail_any (typeIs_str s2 z t) slot_str_getitem.lookup (getItem_str (c := c) (by
    have e1 : decide (i < -(2 ^ 63 : Int)) = false := decide_eq_false (by omega)
    have e2 : decide (i ≥ 2 ^ 63) = false := decide_eq_false (by omega)
    rw [e1, e2] <;> rfl) (by rw [e]; exact hc) ⟨.str ⟨#[c]⟩, H2, I2.tok _, ⟨_, rfl⟩, q⟩) (hs _ _)
theorem pe_item_byt (ha : PE X a ta) (hb : PE X b tb) (hs : PlainIxT b) :
    PE X (.Subscript a b pos) (tOp (fun x y H Q => ∃ (z : List UInt8) (i : Int), x = .byt z.toArray ∧ y = .int i ∧ z.length ≤ sizeLine ∧ 0 ≤ i ∧ i < z.length ∧ Q (.int ((z.getD i.toNat 0).toNat : Nat)) H) ta tb) := by
  intro pins s σ H Q I h
  refine Subscript_ (binT ha hb I h fun v u s2 x y H2 I2 rx ry q => ?_)
  obtain ⟨z, i, rfl, rfl, hz, h0, h1, q⟩ := q
  obtain ⟨t, rfl⟩ := rx
  obtain ⟨t', rfl⟩ := ry
  have hl : sizeLine = 16777216 := sizeLine_eq
  exact tail_any (PySem.W.typeIs_bytes s2 z.toArray t) PySem.W.FB.slot_bytes_getitem.lookup (PySem.W.getItem_bytes (by omega) h0 h1 ⟨.int ((z.getD i.toNat 0).toNat : Nat), H2, I2.tok _, ⟨_, rfl⟩, q⟩) (hs _ _)

theorem vals1 {x : V} {us : List Value} (r : Vals [x] us) : ∃ u, us = [u] ∧ RelV x u := by
  cases r with
  | cons r1 r2 => cases r2; exact ⟨_, rfl, r1⟩
theorem vals2 {x y : V} {us : List Value} (r : Vals [x, y] us) : ∃ u w', us = [u, w'] ∧ RelV x u ∧ RelV y w' := by
  cases r with
  | cons r1 r2 =>
    cases r2 with
    | cons r3 r4 => cases r4; exact ⟨_, _, rfl, r1, r3⟩
theorem call_abs : CallR X (.builtin "abs") (fun xs H Q => ∃ i, xs = [.int i] ∧ Q (.int (if i < 0 then -i else i)) H) := by
  intro pins s σ H xs us Q I r h
  obtain ⟨i, rfl, q⟩ := h
  obtain ⟨u, rfl, t, rfl⟩ := vals1 r
  exact call_abs_int fun u tk => ⟨.int (if i < 0 then -i else i), H, I.tok _, ⟨_, rfl⟩, q⟩
theorem call_max2 (hc : X.calm = true) : CallR X (.builtin "max") (fun xs H Q => ∃ i j, xs = [.int i, .int j] ∧ Q (.int (if j > i then j else i)) H) := by
  intro pins s σ H xs us Q I r h
  obtain ⟨i, j, rfl, q⟩ := h
  obtain ⟨u, w', rfl, ⟨t, rfl⟩, ⟨t', rfl⟩⟩ := vals2 r
  refine max_two_ints (I.ok.hd hc) fun h' tk k => ⟨_, H, I.kept k, ?_, q⟩
  by_cases hj : j > i
  · rw [if_pos hj, if_pos hj]; exact ⟨_, rfl⟩
  · rw [if_neg hj, if_neg hj]; exact ⟨_, rfl⟩
theorem call_min2 (hc : X.calm = true) : CallR X (.builtin "min") (fun xs H Q => ∃ i j, xs = [.int i, .int j] ∧ Q (.int (if j < i then j else i)) H) := by
  intro pins s σ H xs us Q I r h
  obtain ⟨i, j, rfl, q⟩ := h
  obtain ⟨u, w', rfl, ⟨t, rfl⟩, ⟨t', rfl⟩⟩ := vals2 r
  refine min_two_ints (I.ok.hd hc) fun h' tk k => ⟨_, H, I.kept k, ?_, q⟩
  by_cases hj : j < i
  · rw [if_pos hj, if_pos hj]; exact ⟨_, rfl⟩
  · rw [if_neg hj, if_neg hj]; exact ⟨_, rfl⟩
theorem call_int1 : CallR X (.type "int") (fun xs H Q => (∃ i, xs = [.int i] ∧ Q (.int i) H) ∨ ∃ k, xs = [.bl k] ∧ Q (.int (if k then 1 else 0)) H) := by
  intro pins s σ H xs us Q I r h
  rcases h with ⟨i, rfl, q⟩ | ⟨k, rfl, q⟩
  · obtain ⟨u, rfl, t, rfl⟩ := vals1 r
    exact call_int_int ⟨.int i, H, I, ⟨_, rfl⟩, q⟩
  · obtain ⟨u, rfl, r1⟩ := vals1 r
    cases r1
    exact call_int_bool ⟨.int (if k then 1 else 0), H, I.tok _, ⟨_, rfl⟩, q⟩
theorem call_bool1 : CallR X (.type "bool") (fun xs H Q => (∃ i, xs = [.int i] ∧ Q (.bl (i != 0)) H) ∨ ∃ k, xs = [.bl k] ∧ Q (.bl k) H) := by
  intro pins s σ H xs us Q I r h
  rcases h with ⟨i, rfl, q⟩ | ⟨k, rfl, q⟩
  · obtain ⟨u, rfl, t, rfl⟩ := vals1 r
    exact call_bool_int ⟨.bl (i != 0), H, I, rfl, q⟩
  · obtain ⟨u, rfl, r1⟩ := vals1 r
    cases r1
    exact call_bool_bool ⟨.bl k, H, I, rfl, q⟩
theorem call_str_int : CallR X (.type "str") (fun xs H Q => ∃ i, xs = [.int i] ∧ i.natAbs.log2 < 1920 ∧ Q (.str (toString i)) H) := by
  intro pins s σ H xs us Q I r h
  obtain ⟨i, rfl, hz, q⟩ := h
  obtain ⟨u, rfl, t, rfl⟩ := vals1 r
  exact PySem.P.str_of_int hz ⟨.str _, H, I.tok _, ⟨_, rfl⟩, q⟩
theorem call_ord : CallR X (.builtin "ord") (fun xs H Q => ∃ x, xs = [.str x] ∧ x.length = 1 ∧ Q (.int (x.cps.getD 0 0 : Nat)) H) := by
  intro pins s σ H xs us Q I r h
  obtain ⟨x, rfl, hz, q⟩ := h
  obtain ⟨u, rfl, t, rfl⟩ := vals1 r
  exact ord_of_one hz ⟨.int _, H, I.tok _, ⟨_, rfl⟩, q⟩
theorem call_chr : CallR X (.builtin "chr") (fun xs H Q => ∃ i, xs = [.int i] ∧ 0 ≤ i ∧ i ≤ 1114111 ∧ Q (.str ⟨#[i.toNat]⟩) H) := by
  intro pins s σ H xs us Q I r h
  obtain ⟨i, rfl, h0, h1, q⟩ := h
  obtain ⟨u, rfl, t, rfl⟩ := vals1 r
  exact chr_of_range h0 h1 ⟨.str _, H, I.tok _, ⟨_, rfl⟩, q⟩
def LenV (K : PySem.W.Frag) (x : V) (H : Hp) (n : Nat) : Prop :=
  match x with
  | .str y => y.length ≤ sizeLine ∧ n = y.length
  | .byt y => y.size ≤ sizeLine ∧ n = y.size
  | .ref p => (∃ xs, SqL K H p xs ∧ n = xs.length) ∨ ∃ xs, SqT K H p xs ∧ n = xs.length
  | _ => False
theorem call_len : CallR X (.builtin "len") (fun xs H Q => ∃ x n, xs = [x] ∧ LenV X.K x H n ∧ Q (.int n) H) := by
  intro pins s σ H xs us Q I r h
  obtain ⟨x, n, rfl, e, q⟩ := h
  obtain ⟨u, rfl, rx⟩ := vals1 r
  have hl := line63
  have hs : sizeLine = 16777216 := sizeLine_eq
  cases x with
  | str y =>
    obtain ⟨t, rfl⟩ := rx
    obtain ⟨hy, e'⟩ : y.length ≤ sizeLine ∧ n = y.length := e
    subst e'
    exact len_str (by omega) ⟨.int _, H, I.tok _, ⟨_, rfl⟩, q⟩
  | byt y =>
    obtain ⟨t, rfl⟩ := rx
    obtain ⟨hy, e'⟩ : y.size ≤ sizeLine ∧ n = y.size := e
    subst e'
    exact PySem.W.len_bytes (by omega) ⟨.int _, H, I.tok _, ⟨_, rfl⟩, q⟩
  | ref p =>
    cases rx
    have e' : (∃ xs, SqL X.K H p xs ∧ n = xs.length) ∨ ∃ xs, SqT X.K H p xs ∧ n = xs.length := e
    rcases e' with ⟨xs, hx, e'⟩ | ⟨xs, hx, e'⟩
    · subst e'
      obtain ⟨its, r', pl, hz⟩ := I.list hx
      have hlen := r'.length
      exact Calls.call_len_list pl.isList (by simp only [List.size_toArray]; omega) ⟨.int xs.length, H, I.tok _, ⟨_, by simp only [List.size_toArray]; rw [hlen]⟩, q⟩
    · subst e'
      obtain ⟨its, r', pl, hz⟩ := I.tuple hx
      have hlen := r'.length
      exact len_tuple pl (by simp only [List.size_toArray]; omega) ⟨.int xs.length, H, I.tok _, ⟨_, by simp only [List.size_toArray]; rw [hlen]⟩, q⟩
  | _ => exact (show False from e).elim
theorem call_divmod : CallR X (.builtin "divmod") (fun xs H Q => ∃ i j, xs = [.int i, .int j] ∧ CDiv i j ∧ ∀ p, H p = none → Q (.ref p) (upd H p (.tup [.int (i / j), .int (i % j)]))) := by
  intro pins s σ H xs us Q I r h
  obtain ⟨i, j, rfl, ⟨h1, h2⟩, q⟩ := h
  obtain ⟨u, w', rfl, ⟨t, rfl⟩, ⟨t', rfl⟩⟩ := vals2 r
  refine divmod_int (by omega) ?_ (.inl (PyProof.noPylong_small (by omega)))
  rw [Int.fdiv_eq_ediv_of_nonneg i (by omega), Int.fmod_eq_emod_of_nonneg i (by omega)]
  have hn : H s.heap.objs.size = none := I.hok.fresh (Nat.le_refl _)
  refine ⟨.ref s.heap.objs.size, _, ?_, rfl, q _ hn⟩
  refine I.laid (fun b o e => Heap.get?_push_of_some _ e) (Nat.le_refl _) ⟨by simp only [List.length_cons, List.length_nil]; rw [sizeLine_eq]; decide, [.int (i / j) s.toks, .int (i % j) (s.toks + 1)], .cons ⟨_, rfl⟩ (.cons ⟨_, rfl⟩ .nil), ?_⟩
  exact ⟨_, Heap.get?_push_size s.heap rfl, rfl, 0, rfl⟩
end
end L2

namespace L2
open PySem PySem.Spec PyProof.Rows

structure ObjM (h : Heap) (x dx C : Addr) (mA : Str → Option Value) : Prop where
  obj : h.get? x = some (PySem.W.instObj C dx)
  ns : h.Ns1 dx mA
  ne : dx ≠ x

theorem lookIn_ns {h : Heap} {dx : Addr} {mA : Str → Option Value} (n : h.Ns1 dx mA) : ∃ od, h.get? dx = some od ∧ ∀ name, PySem.W.lookIn name od = some (mA name) := by
  obtain ⟨o, es, ep, ho, hd, hk, _, hm⟩ := n
  refine ⟨o, ho, fun name => ?_⟩
  have e := hm name
  unfold nsFind findBy at e
  rw [← Array.find?_toList] at e
  unfold PySem.W.lookIn
  rw [hd]
  dsimp only
  split
  · rename_i y q
    rw [q] at e
    exact congrArg some e
  · rename_i q
    rw [q] at e
    have a : es.toList.any (·.refKey) = false := by
      rw [List.any_eq_false]
      intro y hy
      obtain ⟨z, t, hkey⟩ := hk y (Array.mem_toList_iff.mp hy)
      simp [DictEntry.refKey, hkey]
    have a' : ¬ es.toList.any (·.refKey) = true := by rw [a]; exact Bool.false_ne_true
    rw [if_neg a']
    exact congrArg some e

theorem ObjM.look {h : Heap} {x dx C : Addr} {mA : Str → Option Value} (I : ObjM h x dx C mA) : ∃ od, PySem.W.InstAt h x (PySem.W.instObj C dx) C (some od) ∧ ∀ name, PySem.W.lookIn name od = some (mA name) :=
  let ⟨od, ho, hl⟩ := lookIn_ns I.ns
  ⟨od, ⟨I.obj, rfl, rfl, ho⟩, hl⟩

section
variable {prog : Program} {w : World} {A : Around} {E : Value → Shared → Prop} {s : Shared} {K : PySem.W.Frag} {x dx C f : Addr} {mA : Str → Option Value} {name : Str} {v : Value}

theorem get_map {expr : Bool} {Q : Value → Shared → Prop} (X : K.In s.heap) (I : ObjM s.heap x dx C mA) (hg : PySem.W.plainGet K C name = true) (hh : PySem.W.hasDictIn K C = true)
    (ha : PySem.W.findIn K (.ref C) name = some none) (hv : mA name = some v) (hv' : PySem.W.handedIn v = true) (h : Q v { s with toks := s.toks + 1 }) :
    wpAny (model prog w) A (getAttr (.ref x) name expr) Q E s := by
  obtain ⟨od, J, hl⟩ := I.look
  exact PySem.W.get_value X J (PySem.W.plainGet_of hg).1 (PySem.W.findObj_own hh ha rfl (by rw [hl, hv])) hv' h

theorem get_const {expr : Bool} {a : Value} {Q : Value → Shared → Prop} (X : K.In s.heap) (I : ObjM s.heap x dx C mA) (hg : PySem.W.plainGet K C name = true) (hh : PySem.W.hasDictIn K C = true)
    (ha : PySem.W.findIn K (.ref C) name = some (some a)) (hn : PySem.W.specialIn K a "__get__" = some none) (hc : PySem.W.copiedNames.contains name = false) (hv : mA name = none) (hv' : PySem.W.handedIn a = true)
    (h : Q a { s with toks := s.toks + 1 }) : wpAny (model prog w) A (getAttr (.ref x) name expr) Q E s := by
  obtain ⟨od, J, hl⟩ := I.look
  exact PySem.W.get_value X J (PySem.W.plainGet_of hg).1 (PySem.W.findObj_cls hh ha hn hv' hc (by rw [hl, hv])) hv' h

theorem get_meth {pl : Sem Bool} {Q : Value × List Value → Shared → Prop} (X : K.In s.heap) (I : ObjM s.heap x dx C mA) (hg : PySem.W.plainGet K C name = true)
    (hf : PySem.W.findIn K (.ref C) name = some (some (.ref f))) (ht : PySem.W.isFn K (.ref f) = true) (hv : mA name = none) (h : Q (.ref f, [.ref x]) s) :
    wpAny (model prog w) A (getMethod (.ref x) name pl) Q E s := by
  obtain ⟨od, J, hl⟩ := I.look
  exact PySem.W.method_fn X J (PySem.W.plainGet_of hg).1 (PySem.W.plainGet_of hg).2 hf (beq_iff_eq.mp ht) (by show (PySem.W.lookIn name od).map (·.isSome) = some false; rw [hl, hv]; rfl) h

theorem set_map {ns : List Str} {Q : Unit → Shared → Prop} (X : K.In s.heap) (I : ObjM s.heap x dx C mA)
    (hs : PySem.W.findIn K (.ref C) "__setattr__" = some (some (.builtin "object.__setattr__"))) (hp : PySem.W.plainOver K C = true) (ht : PySem.W.takerIn K C name = some none) (hh : PySem.W.hasDictIn K C = true)
    (hw : PySem.Within mA ns) (hsz : ns.length ≤ sizeLine)
    (h : ∀ h', ObjM h' x dx C (fun y => if y = name then some v else mA y) → Heap.SameBut dx s.heap h' → Q () { s with heap := h', toks := s.toks + 2 }) :
    wpAny (model prog w) A (setAttr (.ref x) name v) Q E s := by
  obtain ⟨od, J, hl⟩ := I.look
  refine PySem.W.set_plain X J hs (PySem.W.osa_open (s := { s with toks := s.toks + 1 }) (r := none) X J hp ht fun b => ?_)
  obtain ⟨cd, hc, hd'⟩ := PySem.W.any_some hh
  have hx : s.heap.get? x = some ⟨.ref C, some dx, .plain, #[]⟩ := I.obj
  refine wpAny_bind (wpAny_pure (wpAny_bind (wpAny_bind (wpAny_loadPart hx (wpAny_bind (PySem.W.Looks.here (s := { s with toks := s.toks + 1 }) (PySem.W.looks_clsIn X hc) ?_))))))
  rw [hd']
  refine wpAny_pure (a := some dx) (wpAny_bind (wpAny_pure (wpAny_bind ?_)))
  refine wpAny_nsSet1 (s := { s with toks := s.toks + 1 }) I.ns fun h' hn2 hs2 => ?_
  obtain ⟨oD, esD, epD, hoD, hdD, hcD⟩ := hn2.count (PySem.Within.cons name v hw)
  refine wpAny_bind (wpAny_lookBehind hoD (by rw [hdD]; exact pastItsLine_dict (Nat.le_trans hcD (by rw [List.length_cons]; omega))) ?_)
  exact wpAny_pure (h _ ⟨(hs2.2 _ (Ne.symm I.ne)).trans I.obj, hn2, I.ne⟩ hs2)

theorem make_map {R : Result → Shared → Prop} {vs : List Value} {kw : List (Str × Value)} (X : K.In s.heap) (hm : PySem.W.makesIn K C = true)
    (hi : PySem.W.findIn K (.ref C) "__init__" = some (some (.ref f))) (hf : PySem.W.typeIn K (.ref f) = some (.type "function"))
    (h : codeAny (model prog w) (A.under (.builtin "type.__call__" ⟨.ref C :: vs, kw⟩)) (.call (.ref f) ⟨.ref (s.heap.objs.size + 1) :: vs, kw⟩) (PySem.W.InitBack (s.heap.objs.size + 1) R)
      { s with heap := (s.heap.push PySem.W.emptyDict).push (PySem.W.instObj C s.heap.objs.size) }) :
    codeAny (model prog w) A (.call (.ref C) ⟨vs, kw⟩) R s := by
  obtain ⟨hh, g, d, t, os⟩ := s
  exact PySem.W.make_core (PySem.W.makes_of X hm) (PySem.W.looks_findIn X hi) (fun self => PySem.W.bind_fn X self hf) (.inl rfl) h
theorem make_map0 {R : Result → Shared → Prop} (X : K.In s.heap) (hm : PySem.W.makesIn K C = true)
    (hi : PySem.W.findIn K (.ref C) "__init__" = some (some (.builtin "object.__init__")))
    (hb : ∀ self, PySem.W.Looks (model prog w) s.heap (bindSpecial (.builtin "object.__init__") self) (.builtin "object.__init__", [self]))
    (h : codeAny (model prog w) (A.under (.builtin "type.__call__" ⟨[.ref C], []⟩)) (.call (.builtin "object.__init__") ⟨[.ref (s.heap.objs.size + 1)], []⟩) (PySem.W.InitBack (s.heap.objs.size + 1) R)
      { s with heap := (s.heap.push PySem.W.emptyDict).push (PySem.W.instObj C s.heap.objs.size) }) :
    codeAny (model prog w) A (.call (.ref C) ⟨[], []⟩) R s := by
  obtain ⟨hh, g, d, t, os⟩ := s
  exact PySem.W.make_core (PySem.W.makes_of X hm) (PySem.W.looks_findIn X hi) hb (.inr ⟨rfl, rfl⟩) h
end

def putF (f : Str) (v : V) : List (Str × V) → List (Str × V)
  | [] => [(f, v)]
  | (g, x) :: r => if g = f then (g, v) :: r else (g, x) :: putF f v r
theorem lookup_putF (f g : Str) (v : V) : ∀ fs : List (Str × V), (putF f v fs).lookup g = if g = f then some v else fs.lookup g
  | [] => by
    show List.lookup g [(f, v)] = _
    by_cases h : g = f
    · have hb : (g == f) = true := beq_iff_eq.mpr h
      simp only [List.lookup, hb, if_pos h]
    · have hb : (g == f) = false := beq_eq_false_iff_ne.mpr h
      simp only [List.lookup, hb, if_neg h]
  | (k, x) :: r => by
    have ih := lookup_putF f g v r
    rw [show putF f v ((k, x) :: r) = (if k = f then (k, v) :: r else (k, x) :: putF f v r) from rfl]
    by_cases hk : k = f
    · rw [if_pos hk]
      by_cases h : g = k
      · have hb : (g == k) = true := beq_iff_eq.mpr h
        simp only [List.lookup, hb, if_pos (h.trans hk)]
      · have hb : (g == k) = false := beq_eq_false_iff_ne.mpr h
        simp only [List.lookup, hb, if_neg (fun e : g = f => h (e.trans hk.symm))]
    · rw [if_neg hk]
      by_cases h : g = k
      · have hb : (g == k) = true := beq_iff_eq.mpr h
        simp only [List.lookup, hb, if_neg (fun e : g = f => hk (h.symm.trans e))]
      · have hb : (g == k) = false := beq_eq_false_iff_ne.mpr h
        simp only [List.lookup, hb]
        exact ih
theorem keys_putF (f : Str) (v : V) : ∀ fs : List (Str × V), f ∈ (putF f v fs).map (·.1) ∧ ∀ g, g ∈ fs.map (·.1) → g ∈ (putF f v fs).map (·.1)
  | [] => ⟨by simp [putF], fun g h => by simp at h⟩
  | (k, x) :: r => by
    obtain ⟨i1, i2⟩ := keys_putF f v r
    rw [show putF f v ((k, x) :: r) = (if k = f then (k, v) :: r else (k, x) :: putF f v r) from rfl]
    by_cases hk : k = f
    · rw [if_pos hk]
      subst hk
      exact ⟨by simp, fun g h => by simpa using h⟩
    · rw [if_neg hk]
      refine ⟨?_, fun g h => ?_⟩
      · rw [List.map_cons]
        exact List.mem_cons_of_mem _ i1
      · rw [List.map_cons] at h ⊢
        rcases List.mem_cons.mp h with e | e
        · exact List.mem_cons.mpr (.inl e)
        · exact List.mem_cons_of_mem _ (i2 g e)
theorem length_putF (f : Str) (v : V) : ∀ fs : List (Str × V), (putF f v fs).length ≤ fs.length + 1
  | [] => by simp [putF]
  | (k, x) :: r => by
    have ih := length_putF f v r
    rw [show putF f v ((k, x) :: r) = (if k = f then (k, v) :: r else (k, x) :: putF f v r) from rfl]
    by_cases hk : k = f
    · rw [if_pos hk, List.length_cons, List.length_cons]; omega
    · rw [if_neg hk, List.length_cons, List.length_cons]; omega

theorem RelO.some_of {v : V} {o : Option Value} (r : RelO (some v) o) : ∃ u, o = some u ∧ RelV v u := by
  cases o with
  | none => exact (show False from r).elim
  | some u => exact ⟨u, rfl, r⟩
theorem RelO.none_of {o : Option Value} (r : RelO none o) : o = none := by
  cases o with
  | none => rfl
  | some u => exact (show False from r).elim
theorem handed_of {v : V} {u : Value} (r : RelV v u) : PySem.W.handedIn u = true := by
  cases v with
  | non => cases (show u = Value.none from r); rfl
  | bl b => cases (show u = Value.bool b from r); rfl
  | int i => obtain ⟨t, e⟩ := (show ∃ t, u = Value.int i t from r); cases e; rfl
  | str x => obtain ⟨t, e⟩ := (show ∃ t, u = Value.str x t from r); cases e; rfl
  | byt b => obtain ⟨t, e⟩ := (show ∃ t, u = Value.bytes b t from r); cases e; rfl
  | flt b => obtain ⟨t, e⟩ := (show ∃ t, u = Value.float b t from r); cases e; rfl
  | ref a => cases (show u = Value.ref a from r); rfl
  | ty n => cases (show u = Value.type n from r); rfl

section
variable {P : Program} {w : World} {H H' : Hp} {h h' : Heap} {a C dx : Addr} {fs fs' : List (Str × V)}
theorem ins_get (hok : HOk P w H h) (e : H a = some (.ins C dx fs)) : ∃ mA, ObjM h a dx C mA ∧ (∀ f, RelO (fs.lookup f) (mA f)) ∧ PySem.Within mA (fs.map (·.1)) ∧ fs.length ≤ 1000 ∧ H dx = some (.own a) := by
  obtain ⟨d, z, ne, ob, mA, n, r, q⟩ := (show ObjOk P w H h a (.ins C dx fs) from hok a _ e)
  exact ⟨mA, ⟨ob, n, ne⟩, r, q, z, d⟩
end

structure Cls (K : PySem.W.Frag) (C : Addr) : Prop where
  pg : PySem.W.plainGet K C Str.empty = true
  hd : PySem.W.hasDictIn K C = true
  po : PySem.W.plainOver K C = true
  sa : PySem.W.findIn K (.ref C) "__setattr__" = some (some (.builtin "object.__setattr__"))
theorem Cls.get {K : PySem.W.Frag} {C : Addr} (c : Cls K C) (f : Str) : PySem.W.plainGet K C f = true := c.pg
def NoAttr (K : PySem.W.Frag) (C : Addr) (f : Str) : Prop := PySem.W.findIn K (.ref C) f = some none
theorem NoAttr.taker {K : PySem.W.Frag} {C : Addr} {f : Str} (n : NoAttr K C f) : PySem.W.takerIn K C f = some none := by
  unfold PySem.W.takerIn
  rw [show PySem.W.findIn K (.ref C) f = some none from n]
  rfl
structure Con (K : PySem.W.Frag) (C : Addr) (f : Str) (v : V) (u : Value) : Prop where
  at_ : PySem.W.findIn K (.ref C) f = some (some u)
  rel : RelV v u
  get : PySem.W.specialIn K u "__get__" = some none
  cp : PySem.W.copiedNames.contains f = false
structure Meth (K : PySem.W.Frag) (C : Addr) (m : Str) (f : Addr) : Prop where
  at_ : PySem.W.findIn K (.ref C) m = some (some (.ref f))
  fn : PySem.W.isFn K (.ref f) = true
  kp : PySem.W.keepIn K (.ref f) = true

section
variable {X : Cx} {pins : List (Addr × Obj)} {σ : St} {H : Hp} {s : Shared} {a C dx : Addr} {fs : List (Str × V)} {f : Str} {v : V} {A : Around} {E : Value → Shared → Prop}

theorem getattr_ok {b : Bool} {Q : Value → Shared → Prop} (I : Inv X pins σ H s) (e : H a = some (.ins C dx fs)) (c : Cls X.K C) (n : NoAttr X.K C f) (l : fs.lookup f = some v)
    (h : ∀ u s', Inv X pins σ H s' → RelV v u → Q u s') : wpAny (model X.prog X.w) A (getAttr (.ref a) f b) Q E s := by
  obtain ⟨mA, O, r, _, _, _⟩ := ins_get I.hok e
  obtain ⟨u, hu, ru⟩ := RelO.some_of (v := v) (o := mA f) (by rw [← l]; exact r f)
  exact get_map I.kIn O (c.get f) c.hd n hu (handed_of ru) (h u _ (I.tok _) ru)

theorem getcon_ok {b : Bool} {u : Value} {Q : Value → Shared → Prop} (I : Inv X pins σ H s) (e : H a = some (.ins C dx fs)) (c : Cls X.K C) (k : Con X.K C f v u) (l : fs.lookup f = none)
    (h : ∀ s', Inv X pins σ H s' → Q u s') : wpAny (model X.prog X.w) A (getAttr (.ref a) f b) Q E s := by
  obtain ⟨mA, O, r, _, _, _⟩ := ins_get I.hok e
  have hn : mA f = none := RelO.none_of (by rw [← l]; exact r f)
  exact get_const I.kIn O (c.get f) c.hd k.at_ k.get k.cp hn (handed_of k.rel) (h _ (I.tok _))

theorem getmeth_ok {m : Str} {g : Addr} {pl : Sem Bool} {Q : Value × List Value → Shared → Prop} (I : Inv X pins σ H s) (e : H a = some (.ins C dx fs)) (c : Cls X.K C) (k : Meth X.K C m g) (l : fs.lookup m = none)
    (h : Q (.ref g, [.ref a]) s) : wpAny (model X.prog X.w) A (getMethod (.ref a) m pl) Q E s := by
  obtain ⟨mA, O, r, _, _, _⟩ := ins_get I.hok e
  have hn : mA m = none := RelO.none_of (by rw [← l]; exact r m)
  exact get_meth I.kIn O (c.get m) k.at_ k.fn hn h

theorem setattr_ok {y : V} {u : Value} {Q : Unit → Shared → Prop} (I : Inv X pins σ H s) (e : H a = some (.ins C dx fs)) (c : Cls X.K C) (n : NoAttr X.K C f) (hl : fs.length < 1000) (ry : RelV y u)
    (h : ∀ s', Inv X pins σ (upd H a (.ins C dx (putF f y fs))) s' → Q () s') : wpAny (model X.prog X.w) A (setAttr (.ref a) f u) Q E s := by
  obtain ⟨mA, O, r, wi, _, ho⟩ := ins_get I.hok e
  have hz : (fs.map (·.1)).length ≤ sizeLine := by rw [List.length_map, sizeLine_eq]; omega
  refine set_map I.kIn O c.sa c.po n.taker c.hd wi hz fun h' O' sb => h _ ?_
  have hd : ∃ o, h'.get? dx = some o := let ⟨o, _, _, e', _⟩ := O'.ns; ⟨o, e'⟩
  refine I.write (x := a) (e := dx) (by rw [e]; exact True.intro) (.inr ho) (fun b q hb z => (sb.2 b hb).trans z) hd ?_
  refine ⟨by rw [upd_ne O.ne]; exact ho, ?_, O.ne, O'.obj, _, O'.ns, fun g => ?_, fun g hg => ?_⟩
  · have := length_putF f y fs; omega
  · show RelO ((putF f y fs).lookup g) (if g = f then some u else mA g)
    rw [lookup_putF]
    by_cases q : g = f
    · rw [if_pos q, if_pos q]; exact ry
    · rw [if_neg q, if_neg q]; exact r g
  · by_cases q : g = f
    · rw [q]; exact (keys_putF f y fs).1
    · refine (keys_putF f y fs).2 g (wi g fun z => hg ?_)
      show (if g = f then some u else mA g) = none
      rw [if_neg q]; exact z

theorem Inv.made (I : Inv X pins σ H s) : Inv X pins σ (upd (upd H s.heap.objs.size (.own (s.heap.objs.size + 1))) (s.heap.objs.size + 1) (.ins C s.heap.objs.size []))
    { s with heap := (s.heap.push PySem.W.emptyDict).push (PySem.W.instObj C s.heap.objs.size) } := by
  have e1 : (s.heap.push PySem.W.emptyDict).get? s.heap.objs.size = some PySem.W.emptyDict := Heap.get?_push_size s.heap rfl
  have e2 : ((s.heap.push PySem.W.emptyDict).push (PySem.W.instObj C s.heap.objs.size)).get? (s.heap.objs.size + 1) = some (PySem.W.instObj C s.heap.objs.size) := by
    have := Heap.get?_push_size (s.heap.push PySem.W.emptyDict) (o := PySem.W.instObj C s.heap.objs.size) rfl
    rwa [Heap.size_push] at this
  have e3 : (s.heap.push PySem.W.emptyDict).Ns s.heap.objs.size (fun _ => none) := ⟨PySem.W.emptyDict, #[], _, e1, rfl, (fun e he => absurd he (by simp)), fun _ => rfl⟩
  have I1 := I.laid (a := s.heap.objs.size) (o := .own (s.heap.objs.size + 1)) (h' := s.heap.push PySem.W.emptyDict) (t' := s.toks) (fun b u q => Heap.get?_push_of_some _ q) (Nat.le_refl _) ⟨_, e1⟩
  refine I1.laid (a := s.heap.objs.size + 1) (o := .ins C s.heap.objs.size []) (t' := s.toks) (fun b u q => Heap.get?_push_of_some _ q) (Nat.le_of_eq (Heap.size_push _ _)) ?_
  have ne : s.heap.objs.size ≠ s.heap.objs.size + 1 := Nat.ne_of_lt (Nat.lt_succ_self _)
  refine ⟨by rw [upd_ne ne, upd_same], Nat.zero_le _, ne, e2, fun _ => none, (Heap.Ns1.of_empty e3).at fun o q => Heap.get?_push_of_some _ q, fun _ => True.intro, fun y hy => absurd rfl hy⟩

theorem attr_of {prog : Program} {w : World} {env : Env} {e : Expr} {f : Str} {pos : Pos} {s : Shared} {Q : Value → Shared → Prop} (hb : attributeBase e f env (eval e env) = eval e env)
    (h : wpAny (model prog w) A (eval e env) (fun o s₁ => wpAny (model prog w) A (getAttr o f true) Q E s₁) E s) : wpAny (model prog w) A (eval (.Attribute e f pos) env) Q E s :=
  Attribute_any_ h (by rw [arm_eval_Attribute, hb])
end

def tFld (K : PySem.W.Frag) (ta : TE) (f : Str) : TE := fun σ H Q => ta σ H fun x H1 => ∃ a C dx fs v, x = .ref a ∧ H1 a = some (.ins C dx fs) ∧ Cls K C ∧ NoAttr K C f ∧ fs.lookup f = some v ∧ Q v H1
def tCon (K : PySem.W.Frag) (ta : TE) (f : Str) : TE := fun σ H Q => ta σ H fun x H1 => ∃ a C dx fs v u, x = .ref a ∧ H1 a = some (.ins C dx fs) ∧ Cls K C ∧ Con K C f v u ∧ fs.lookup f = none ∧ Q v H1
def sFld (K : PySem.W.Frag) (ta tv : TE) (f : Str) : TS := fun D σ H => tv σ H fun y H1 => ta σ H1 fun x H2 => ∃ a C dx fs, x = .ref a ∧ H2 a = some (.ins C dx fs) ∧ Cls K C ∧ NoAttr K C f ∧ fs.length < 1000 ∧
  D.nx σ (upd H2 a (.ins C dx (putF f y fs)))
def InOp (X : Cx) (op : Operator) (rd : V → V → Hp → VK → Prop) : Prop :=
  ∀ (pins : List (Addr × Obj)) (s : Shared) (σ : St) (H : Hp) (x y : V) (u v : Value) (Q : VK), Inv X pins σ H s → RelV x u → RelV y v → rd x y H Q → wpAny (model X.prog X.w) X.A (inplaceOp op u v) (EP X pins σ Q) X.xe s
def sFldAug (K : PySem.W.Frag) (ta tv : TE) (rd : V → V → Hp → VK → Prop) (f : Str) : TS := fun D σ H => ta σ H fun x H1 => ∃ a C dx fs v, x = .ref a ∧ H1 a = some (.ins C dx fs) ∧ Cls K C ∧ NoAttr K C f ∧ fs.lookup f = some v ∧
  tv σ H1 fun y H2 => rd v y H2 fun z H3 => ∃ dx' fs', H3 a = some (.ins C dx' fs') ∧ fs'.length < 1000 ∧ D.nx σ (upd H3 a (.ins C dx' (putF f z fs')))

section
variable {X : Cx} {o e value : Expr} {f : Str} {pos pos' tpos : Pos} {ta tv : TE}
theorem pe_fld (he : PE X e ta) (hb : attributeBase e f X.env (eval e X.env) = eval e X.env) : PE X (.Attribute e f pos) (tFld X.K ta f) := by
  intro pins s σ H Q I h
  refine attr_of hb (thn (he pins s σ H _ I h) fun u s1 ⟨x, H1, I1, rx, a, C, dx, fs, v, ex, ea, c, n, l, q⟩ => ?_)
  subst ex
  obtain rfl : u = Value.ref a := rx
  exact getattr_ok I1 ea c n l fun u' s2 I2 ru => ⟨v, H1, I2, ru, q⟩
theorem pe_con (he : PE X e ta) (hb : attributeBase e f X.env (eval e X.env) = eval e X.env) : PE X (.Attribute e f pos) (tCon X.K ta f) := by
  intro pins s σ H Q I h
  refine attr_of hb (thn (he pins s σ H _ I h) fun u s1 ⟨x, H1, I1, rx, a, C, dx, fs, v, u0, ex, ea, c, k, l, q⟩ => ?_)
  subst ex
  obtain rfl : u = Value.ref a := rx
  exact getcon_ok I1 ea c k l fun s2 I2 => ⟨v, H1, I2, k.rel, q⟩
theorem ps_fld (ha : PE X o ta) (hv : PE X value tv) (hs : swapsWith value (some (.Attribute o f pos')) pos.line X.env = pure false) : PS X (.Assign [.Attribute o f pos'] value pos) (sFld X.K ta tv f) := by
  intro pins s σ H D I h
  refine plainObj_wpAny_Assign_Attribute (thn (hv pins s σ H _ I h) fun u s1 ⟨y, H1, I1, ry, q⟩ => thn (ha pins s1 σ H1 _ I1 q) fun ov s2 ⟨x, H2, I2, rx, a, C, dx, fs, ex, ea, c, n, l, q2⟩ => ?_) hs
  subst ex
  obtain rfl : ov = Value.ref a := rx
  exact setattr_ok I2 ea c n l ry fun s3 I3 => ⟨σ, _, I3, q2⟩
theorem ps_fldaug {op : Operator} {rd : V → V → Hp → VK → Prop} (ha : PE X o ta) (hv : PE X value tv) (hop : InOp X op rd) : PS X (.AugAssign (.Attribute o f tpos) op value pos) (sFldAug X.K ta tv rd f) := by
  intro pins s σ H D I h
  refine wpAny_AugAssign_AttributeAny (thn (ha pins s σ H _ I h) fun ov s1 ⟨x, H1, I1, rx, a, C, dx, fs, v, ex, ea, c, n, l, q⟩ => ?_)
  subst ex
  obtain rfl : ov = Value.ref a := rx
  refine getattr_ok I1 ea c n l fun u s2 I2 ru => thn (hv pins s2 σ H1 _ I2 q) fun w3 s3 ⟨y, H2, I3, ry, q3⟩ => thn (hop pins s3 σ H2 v y u w3 _ I3 ru ry q3) fun w4 s4 ⟨z, H3, I4, rz, dx', fs', ea', l', q4⟩ => ?_
  exact setattr_ok I4 ea' c n l' rz fun s5 I5 => ⟨σ, _, I5, q4⟩
def rAdd : V → V → Hp → VK → Prop := fun x y H Q => ∃ i j, x = .int i ∧ y = .int j ∧ Q (.int (i + j)) H
def rSub : V → V → Hp → VK → Prop := fun x y H Q => ∃ i j, x = .int i ∧ y = .int j ∧ Q (.int (i - j)) H
theorem in_add : InOp X .Add rAdd := by
  rintro pins s σ H x y u v Q I rx ry ⟨i, j, rfl, rfl, q⟩
  obtain ⟨t, rfl⟩ := (show ∃ t, u = Value.int i t from rx)
  obtain ⟨t', rfl⟩ := (show ∃ t', v = Value.int j t' from ry)
  exact PyProof.Rows.iadd_int ⟨.int (i + j), H, I.tok _, ⟨_, rfl⟩, q⟩
theorem in_sub : InOp X .Sub rSub := by
  rintro pins s σ H x y u v Q I rx ry ⟨i, j, rfl, rfl, q⟩
  obtain ⟨t, rfl⟩ := (show ∃ t, u = Value.int i t from rx)
  obtain ⟨t', rfl⟩ := (show ∃ t', v = Value.int j t' from ry)
  exact PyProof.Rows.isub_int ⟨.int (i - j), H, I.tok _, ⟨_, rfl⟩, q⟩

theorem methcall_of {pl : Sem Bool} {m : Str} {apos : Pos} {args : List Expr} {pins : List (Addr × Obj)} {s : Shared} {σ : St} {H : Hp} {Q : Value → Shared → Prop} {te : TE} (he : PE X e te) (I : Inv X pins σ H s)
    (h : te σ H fun x H1 => ∃ a C dx fs g, x = .ref a ∧ H1 a = some (.ins C dx fs) ∧ Cls X.K C ∧ Meth X.K C m g ∧ fs.lookup m = none ∧
      ∀ s1, Inv X pins σ H1 s1 → wpAny (model X.prog X.w) X.A (callWith pos (.ref g) [.ref a] (backTo pos (starEach args X.env)) (backToKw pos (keywordEach [] X.env))) Q X.xe s1)
    (ht : eval (.Call (.Attribute e m apos) args [] pos) X.env = (do
      let ov ← eval e X.env
      standAt apos.atName
      let (f, first) ← holding [ov] (getMethod ov m pl)
      callWith pos f first (backTo pos (starEach args X.env)) (backToKw pos (keywordEach [] X.env)))) :
    wpAny (model X.prog X.w) X.A (eval (.Call (.Attribute e m apos) args [] pos) X.env) Q X.xe s := by
  refine PySem.W.methodCall_KW (pl := pl) (thn (he pins s σ H _ I h) fun u s1 ⟨x, H1, I1, rx, a, C, dx, fs, g, ex, ea, c, k, l, q⟩ => ?_) ht
  subst ex
  obtain rfl : u = Value.ref a := rx
  exact getmeth_ok I1 ea c k l (q s1 I1)
end

section
variable {X : Cx} {pins : List (Addr × Obj)} {σ : St} {H : Hp} {s : Shared} {A : Around} {E : Value → Shared → Prop} {Q : Value → Shared → Prop} {c : Value} {b : Bool}
inductive TyOf (K : PySem.W.Frag) (H : Hp) : V → Value → Prop where
  | non : TyOf K H .non (.type "NoneType")
  | bl (x : Bool) : TyOf K H (.bl x) (.type "bool")
  | int (i : Int) : TyOf K H (.int i) (.type "int")
  | str (x : Str) : TyOf K H (.str x) (.type "str")
  | flt (x : UInt64) : TyOf K H (.flt x) (.type "float")
  | lst {a : Addr} {xs : List V} (e : H a = some (.lst xs)) : TyOf K H (.ref a) (.type "list")
  | frz {a : Addr} {o : Obj} {xs : List V} (e : H a = some (.frz o (.lst xs))) : TyOf K H (.ref a) (.type "list")
  | tup {a : Addr} {xs : List V} (e : H a = some (.tup xs)) : TyOf K H (.ref a) (.type "tuple")
  | dK {a : Addr} {kvs : List (Key × V)} (e : H a = some (.dK kvs)) : TyOf K H (.ref a) (.type "dict")
  | dT {a : Addr} {kvs : List (List Key × V)} (e : H a = some (.dT kvs)) : TyOf K H (.ref a) (.type "dict")
  | ins {a C dx : Addr} {fs : List (Str × V)} (e : H a = some (.ins C dx fs)) (cl : Cls K C) (ha : PySem.W.findIn K (.ref C) "__class__" = some (some (.builtin "object.__class__")))
      (hn : PySem.W.specialIn K (.builtin "object.__class__") "__get__" = some (some (.builtin "getset_descriptor.__get__"))) (htk : PySem.W.takesIn K (.builtin "object.__class__") = some true)
      (hm : PySem.W.mroIn K C (.type "object") = some true) : TyOf K H (.ref a) (.ref C)
theorem isinst_ok {x : V} {u t : Value} (I : Inv X pins σ H s) (rx : RelV x u) (ty : TyOf X.K H x t) (e : PySem.W.kitOne X.K t c = some b) (h : ∀ tk, Q (.bool b) { s with toks := tk }) :
    wpAny (model X.prog X.w) A (call (.builtin "isinstance") [u, c]) Q E s := by
  cases ty with
  | non => cases (show u = Value.none from rx); exact PySem.W.kia_one PySem.W.kitx_none I.kIn True.intro e (fun z => nomatch z) h
  | bl y => cases (show u = Value.bool y from rx); exact PySem.W.kia_one PySem.W.kitx_bool I.kIn True.intro e (fun z => nomatch z) h
  | int i => obtain ⟨t, q⟩ := (show ∃ t, u = Value.int i t from rx); cases q; exact PySem.W.kia_one PySem.W.kitx_int I.kIn True.intro e (fun z => nomatch z) h
  | str y => obtain ⟨t, q⟩ := (show ∃ t, u = Value.str y t from rx); cases q; exact PySem.W.kia_one PySem.W.kitx_str I.kIn True.intro e (fun z => nomatch z) h
  | flt y => obtain ⟨t, q⟩ := (show ∃ t, u = Value.float y t from rx); cases q; exact PySem.W.kia_one PySem.W.kitx_float I.kIn True.intro e (fun z => nomatch z) h
  | @lst a xs ea =>
    cases (show u = Value.ref a from rx)
    obtain ⟨_, _, n, _, h1⟩ := (show ObjOk X.prog X.w H s.heap a (.lst xs) from I.hok a _ ea)
    exact PySem.W.kia_one PySem.W.kitx_list I.kIn ⟨_, h1, rfl⟩ e (fun z => nomatch z) h
  | @frz a ob xs ea =>
    cases (show u = Value.ref a from rx)
    obtain ⟨_, _, _, n, _, h1⟩ := (show ObjOk X.prog X.w H s.heap a (.frz ob (.lst xs)) from I.hok a _ ea)
    exact PySem.W.kia_one PySem.W.kitx_list I.kIn ⟨_, h1, rfl⟩ e (fun z => nomatch z) h
  | @tup a xs ea =>
    cases (show u = Value.ref a from rx)
    obtain ⟨_, _, _, p⟩ := (show ObjOk X.prog X.w H s.heap a (.tup xs) from I.hok a _ ea)
    obtain ⟨o, h1, h2, _⟩ := p
    exact PySem.W.kia_one PySem.W.kitx_tuple I.kIn ⟨o, h1, h2⟩ e (fun z => nomatch z) h
  | @dK a kvs ea =>
    cases (show u = Value.ref a from rx)
    obtain ⟨_, _, vs, _, p⟩ := (show ObjOk X.prog X.w H s.heap a (.dK kvs) from I.hok a _ ea)
    obtain ⟨o, es, ep, h1, h2, _⟩ := p
    exact PySem.W.kia_one PySem.W.kitx_dict I.kIn ⟨o, h1, h2.1⟩ e (fun z => nomatch z) h
  | @dT a kvs ea =>
    cases (show u = Value.ref a from rx)
    obtain ⟨_, _, xs, _, o, es, ep, h1, h2, _⟩ := (show ObjOk X.prog X.w H s.heap a (.dT kvs) from I.hok a _ ea)
    exact PySem.W.kia_one PySem.W.kitx_dict I.kIn ⟨o, h1, h2.1⟩ e (fun z => nomatch z) h
  | @ins a C dx fs ea cl ha hn htk hm =>
    cases (show u = Value.ref a from rx)
    obtain ⟨mA, O, _⟩ := ins_get I.hok ea
    obtain ⟨od, J, _⟩ := O.look
    exact PySem.W.kia_one (PySem.W.kitx_own (cl.get _) cl.hd ha hn htk hm) I.kIn J e (fun z => nomatch z) h
end
end L2

namespace L2
open PySem PySem.Spec PyProof.Rows

structure Room (k : Nat) (A : Around) : Prop where
  hd : A.handled = none
  dp : A.depth + 3 * k + 5 < recursionLimit
  un : A.units + 16 * k + 200 < cLine
theorem Room.mono {j k : Nat} {A : Around} (r : Room k A) (h : j ≤ k) : Room j A := ⟨r.hd, by have := r.dp; omega, by have := r.un; omega⟩
theorem Room.deeper {k : Nat} {A : Around} (r : Room (k + 1) A) (env : Env) : Room k (A.deeper env) :=
  ⟨r.hd, by have := r.dp; show A.depth + 1 + 3 * k + 5 < _; omega, by have := r.un; show A.units + 3 + 16 * k + 200 < _; omega⟩
theorem Room.in1 {k : Nat} {A : Around} (r : Room (k + 1) A) : Room k A.in1 :=
  ⟨r.hd, by have := r.dp; show A.depth + 3 * k + 5 < _; omega, by have := r.un; show A.units + 1 + 16 * k + 200 < _; omega⟩
theorem make_depth {A : Around} {C : Addr} {us : List Value} {kw : List (Str × Value)} : (A.under (.builtin "type.__call__" ⟨.ref C :: us, kw⟩)).depth = A.depth + 1 := by
  first | rfl | simp [Around.under, Code.weight, Code.isCreation, Code.isGuard, Code.isCaller, Code.frames, Code.isFrame, guardIds]
theorem make_units {A : Around} {C : Addr} {us : List Value} {kw : List (Str × Value)} : (A.under (.builtin "type.__call__" ⟨.ref C :: us, kw⟩)).units = A.units + 1 := by
  first | rfl | simp [Around.under, Code.cUnits, Code.frames, Code.isFrame]
theorem Room.make {k : Nat} {A : Around} (r : Room (k + 1) A) (C : Addr) (us : List Value) (kw : List (Str × Value)) : Room k (A.under (.builtin "type.__call__" ⟨.ref C :: us, kw⟩)) :=
  ⟨r.hd, by have := r.dp; rw [make_depth]; omega, by have := r.un; rw [make_units]; omega⟩
theorem Room.depth {k : Nat} {A : Around} (r : Room k A) : A.depth < recursionLimit := by have := r.dp; omega
theorem Room.units {k : Nat} {A : Around} (r : Room k A) : A.units + 64 < cLine := by have := r.un; omega
theorem Room.units0 {k : Nat} {A : Around} (r : Room k A) : A.units < cLine := by have := r.un; omega

def tNil : TA := fun _ H Q => Q [] H
def tCons (ta : TE) (tr : TA) : TA := fun σ H Q => ta σ H fun x H1 => tr σ H1 fun xs H2 => Q (x :: xs) H2
section
variable {X : Cx} {e : Expr} {es : List Expr} {te : TE} {t : TA} {pos : Pos}
theorem pa_nil : PA X [] tNil := fun _ _ _ _ H Q I h => Calls.spliced_nil ⟨[], H, I, .nil, h⟩
theorem pa_cons (ha : PE X e te) (hr : PA X es t) (hs : starEach (e :: es) X.env = (false, eval e X.env) :: starEach es X.env := by rfl) : PA X (e :: es) (tCons te t) := by
  intro pos pins s σ H Q I h
  rw [hs]
  show wpAny _ _ (spliced ((false, eval e X.env) :: backTo pos (starEach es X.env))) _ _ s
  refine Calls.spliced_cons (thn (ha pins s σ H _ I h) fun u s1 ⟨x, H1, I1, r1, q1⟩ => ?_)
  exact thn (hr pos pins s1 σ H1 _ I1 q1) fun us s2 ⟨xs, H2, I2, r2, q2⟩ => ⟨x :: xs, H2, I2, .cons r1 r2, q2⟩

def tTup (t : TA) : TE := fun σ H Q => t σ H fun xs H1 => xs.length ≤ sizeLine ∧ ∀ p, H1 p = none → Q (.ref p) (upd H1 p (.tup xs))
def tLst (t : TA) : TE := fun σ H Q => t σ H fun xs H1 => xs.length ≤ sizeLine ∧ ∀ p, H1 p = none → Q (.ref p) (upd H1 p (.lst xs))
theorem pe_tup {x1} (h : PA X es t) : PE X (.Tuple es x1 pos) (tTup t) := by
  intro pins s σ H Q I hq
  refine wpAny_Tuple_spliced (thn (h pos pins s σ H _ I hq) fun us s1 ⟨xs, H1, I1, r, z, q⟩ => ⟨by rw [← r.length]; exact z, ?_⟩)
  have hf : H1 s1.heap.objs.size = none := I1.hok.fresh (Nat.le_refl _)
  refine ⟨.ref s1.heap.objs.size, upd H1 s1.heap.objs.size (.tup xs), I1.laid (t' := s1.toks) (fun b u e => Heap.get?_push_of_some _ e) (Nat.le_refl _) ?_, rfl, q _ hf⟩
  exact ⟨z, us, r, ⟨_, Heap.get?_push_size _ rfl, rfl, _, rfl⟩⟩
theorem pe_lst (h : PA X es t) : PE X (.List es pos) (tLst t) := by
  intro pins s σ H Q I hq
  refine wpAny_List_spliced (thn (h pos pins s σ H _ I hq) fun us s1 ⟨xs, H1, I1, r, z, q⟩ => ⟨by rw [← r.length]; exact z, ?_⟩)
  have hf : H1 s1.heap.objs.size = none := I1.hok.fresh (Nat.le_refl _)
  refine ⟨.ref s1.heap.objs.size, upd H1 s1.heap.objs.size (.lst xs), I1.laid (t' := s1.toks) (fun b u e => Heap.get?_push_of_some _ e) (Nat.le_refl _) ?_, rfl, q _ hf⟩
  exact ⟨z, us, 0, r, Heap.get?_push_size _ rfl⟩
end

abbrev Sp := List V → Hp → VK → XK → Prop
abbrev CXT := List Env → Hp → Shared → XK → Value → Shared → Prop

structure Env0 (P : Program) (w : World) (K : PySem.W.Frag) (mg : Str → Option Value) (base : Heap) (A : Around) (outer : List Env) (s : Shared) (H : Hp) : Prop where
  frames : A.frames = some outer
  mod : Mod K mg base
  bs : ∀ b o, base.get? b = some o → s.heap.get? b = some o ∧ H b = none
  bsz : base.objs.size ≤ s.heap.objs.size
  funs : s.heap.FunFrames base outer
  frf : ∀ b ∈ frs outer, H b = none
  hok : HOk P w H s.heap
  bare : AllBare s.gens
def CE (outer : List Env) (P : Program) (w : World) (H : Hp) (s : Shared) (Q : VK) (u : Value) (s' : Shared) : Prop :=
  ∃ v H', s'.os = s.os ∧ AllBare s'.gens ∧ Un (frs outer) [] H H' s.heap s'.heap ∧ HOk P w H' s'.heap ∧ RelV v u ∧ Q v H'
def CR (CX : CXT) (outer : List Env) (P : Program) (w : World) (H : Hp) (s : Shared) (Q : VK) (E : XK) (r : Result) (s' : Shared) : Prop :=
  match r with
  | .ok (.ret u) => CE outer P w H s Q u s'
  | .ok _ => False
  | .error e => CX outer H s E e s'
structure FnOk (P : Program) (w : World) (K : PySem.W.Frag) (mg : Str → Option Value) (base : Heap) (CX : CXT) (k : Nat) (f : Addr) (fd : FuncData) (ps : List Str) (sp : Sp) : Prop where
  len : ∀ vs H Q E, sp vs H Q E → vs.length = ps.length
  run : ∀ (A : Around) (outer : List Env) (s : Shared) (H : Hp) (args : Args) (us : List Value) (vs : List V) (Q : VK) (E : XK), Room k A → Env0 P w K mg base A outer s H → BindsTo s fd args (ps.zip us) → Vals vs us → sp vs H Q E →
    codeAny (model P w) A (.call (.ref f) args) (CR CX outer P w H s Q E) s
theorem FnOk.mono {P : Program} {w : World} {K : PySem.W.Frag} {mg : Str → Option Value} {base : Heap} {CX : CXT} {j k : Nat} {f : Addr} {fd : FuncData} {ps : List Str} {sp : Sp} (F : FnOk P w K mg base CX j f fd ps sp) (h : j ≤ k) :
    FnOk P w K mg base CX k f fd ps sp := ⟨F.len, fun A outer s H args us vs Q E hr => F.run A outer s H args us vs Q E (hr.mono h)⟩
theorem FnOk.imp {P : Program} {w : World} {K : PySem.W.Frag} {mg : Str → Option Value} {base : Heap} {CX : CXT} {k : Nat} {f : Addr} {fd : FuncData} {ps : List Str} {sp sp' : Sp} (F : FnOk P w K mg base CX k f fd ps sp)
    (h : ∀ vs H Q E, sp' vs H Q E → sp vs H Q E) : FnOk P w K mg base CX k f fd ps sp' :=
  ⟨fun vs H Q E q => F.len vs H Q E (h _ _ _ _ q), fun A outer s H args us vs Q E hr he hb hv hs => F.run A outer s H args us vs Q E hr he hb hv (h _ _ _ _ hs)⟩

theorem Env0.make {P : Program} {w : World} {K : PySem.W.Frag} {mg : Str → Option Value} {base : Heap} {A : Around} {outer : List Env} {s : Shared} {H : Hp} (e : Env0 P w K mg base A outer s H) (C : Addr) (us : List Value) (kw : List (Str × Value)) :
    Env0 P w K mg base (A.under (.builtin "type.__call__" ⟨.ref C :: us, kw⟩)) outer s H := ⟨by first | exact e.frames | (simpa [Around.under, Code.envs, Code.isFrame, pushEnvs] using e.frames), e.mod, e.bs, e.bsz, e.funs, e.frf, e.hok, e.bare⟩
theorem Env0.in1 {P : Program} {w : World} {K : PySem.W.Frag} {mg : Str → Option Value} {base : Heap} {A : Around} {outer : List Env} {s : Shared} {H : Hp} (e : Env0 P w K mg base A outer s H) :
    Env0 P w K mg base A.in1 outer s H := ⟨e.frames, e.mod, e.bs, e.bsz, e.funs, e.frf, e.hok, e.bare⟩

section
variable {X : Cx} {pins : List (Addr × Obj)} {σ : St} {H : Hp} {s s' : Shared}
theorem Inv.env0 (I : Inv X pins σ H s) : Env0 X.prog X.w X.K X.mg X.base X.A X.stack s H :=
  ⟨I.ok.frames, I.ok.mod, I.bs, Nat.le_trans I.ok.bsz I.sz, I.stack, I.stkFree, I.hok, I.bare⟩
theorem Inv.after {Q : VK} {u : Value} (I : Inv X pins σ H s) (h : CE X.stack X.prog X.w H s Q u s') : EP X pins σ Q u s' := by
  obtain ⟨v, H', os, bare, un, hok, r, q⟩ := h
  obtain ⟨hh, g, d, t, os'⟩ := s'
  obtain rfl : os' = s.os := os
  exact ⟨v, H', I.call (h' := hh) (g' := g) (d' := d) (t' := t) (ch := []) un hok bare (fun b z => absurd z (by simp)), r, q⟩
end

def tCall (sp : Sp) (dvs : List V) (E : XK) (t : TA) : TE := fun σ H Q => t σ H fun vs H1 => sp (vs ++ dvs) H1 Q E
def tMeth (C : Addr) (m : Str) (sp : Sp) (dvs : List V) (E : XK) (ta : TE) (t : TA) : TE := fun σ H Q => ta σ H fun x H1 => ∃ a dx fs, x = .ref a ∧ H1 a = some (.ins C dx fs) ∧ fs.lookup m = none ∧
  t σ H1 fun vs H2 => sp (x :: (vs ++ dvs)) H2 Q E
def tMake (C : Addr) (sp : Sp) (dvs : List V) (E : XK) (t : TA) : TE := fun σ H Q => t σ H fun vs H1 => ∀ x dx, H1 x = none → H1 dx = none → dx ≠ x →
  sp (.ref x :: (vs ++ dvs)) (upd (upd H1 dx (.own x)) x (.ins C dx [])) (fun v H2 => v = .non ∧ Q (.ref x) H2) E

def Binds (K : PySem.W.Frag) (fd : FuncData) (ps : List Str) (ds : List Value) : Prop :=
  ∀ (s : Shared) (us : List Value), K.In s.heap → (us ++ ds).length = ps.length → BindsTo s fd ⟨us, []⟩ (ps.zip (us ++ ds))
theorem Binds.all {K : PySem.W.Frag} {fd : FuncData} {ps : List Str} (h : ∀ us : List Value, us.length = ps.length → bindArgs fd ⟨us, []⟩ = pure (ps.zip us)) : Binds K fd ps [] := fun s us _ hl => by
  rw [List.append_nil] at hl ⊢
  exact .of_eq (h us hl)

def Passes (CX : CXT) (X : Cx) (E : XK) : Prop := ∀ (pins : List (Addr × Obj)) (σ : St) (H : Hp) (s : Shared) (e : Value) (s' : Shared), Inv X pins σ H s → CX X.stack H s E e s' → X.xe e s'

section
variable {X : Cx} {CX : CXT} {k : Nat} {f C : Addr} {fd : FuncData} {ps : List Str} {sp : Sp} {dvs : List V} {ds : List Value} {E : XK} {x m : Str} {p pos apos : Pos} {e o : Expr} {es : List Expr} {ta : TE} {t : TA}

theorem run_fn {pins : List (Addr × Obj)} {σ : St} {H : Hp} {s : Shared} {Q : VK} {us : List Value} {vs : List V} (F : FnOk X.prog X.w X.K X.mg X.base CX k f fd ps sp) (hr : Room k X.A) (hb : Binds X.K fd ps ds) (hd : Vals dvs ds) (hx : Passes CX X E)
    (I : Inv X pins σ H s) (r : Vals vs us) (h : sp (vs ++ dvs) H Q E) : wpAny (model X.prog X.w) X.A (call (.ref f) us) (EP X pins σ Q) X.xe s := by
  have r2 : Vals (vs ++ dvs) (us ++ ds) := r.append hd
  have hl : (us ++ ds).length = ps.length := by rw [← r2.length]; exact F.len _ _ _ _ h
  refine wpAny_call (codeAny_mono (F.run X.A X.stack s H ⟨us, []⟩ (us ++ ds) (vs ++ dvs) Q E hr I.env0 (hb s us I.kIn hl) r2 h) fun r s' hq => ?_)
  cases r with
  | error e => exact hx pins σ H s e s' I hq
  | ok fl =>
    cases fl with
    | ret u => exact I.after hq
    | next => exact False.elim hq
    | brk => exact False.elim hq
    | cont => exact False.elim hq

theorem pe_call (F : FnOk X.prog X.w X.K X.mg X.base CX k f fd ps sp) (hr : Room k X.A) (hg : Gl X x) (hm : X.mg x = some (.ref f)) (hk : PySem.W.keepIn X.K (.ref f) = true) (hb : Binds X.K fd ps ds) (hd : Vals dvs ds) (hx : Passes CX X E)
    (ha : PA X (e :: es) t) (hdb : (x == ("__debug__" : Str)) = false := by decide) (he : starEach (e :: es) X.env = (false, eval e X.env) :: starEach es X.env := by rfl) (hpl : (backTo pos (starEach es X.env)).any (·.1) = false := by rfl) :
    PE X (.Call (.Name x p) (e :: es) [] pos) (tCall sp dvs E t) := by
  intro pins s σ H Q I h
  refine wpAny_Call_Name_kw (ld_glob I hg hm ?_ hdb)
  refine PySem.W.callWith_K (h₀ := X.base) I.ok.mod.kin hk (thn (ha pos pins s σ H _ I h) fun us s1 ⟨vs, H1, I1, r, q⟩ => ⟨I1.kIn, ?_⟩) he hpl
  exact run_fn F hr hb hd hx I1 r q
theorem pe_call0 (F : FnOk X.prog X.w X.K X.mg X.base CX k f fd ps sp) (hr : Room k X.A) (hg : Gl X x) (hm : X.mg x = some (.ref f)) (hk : PySem.W.keepIn X.K (.ref f) = true) (hb : Binds X.K fd ps ds) (hd : Vals dvs ds) (hx : Passes CX X E)
    (hdb : (x == ("__debug__" : Str)) = false := by decide) : PE X (.Call (.Name x p) [] [] pos) (tCall sp dvs E tNil) := by
  intro pins s σ H Q I h
  refine wpAny_Call_Name_kw (ld_glob I hg hm ?_ hdb)
  exact PySem.W.callWith_K0 I.kIn hk (run_fn (us := []) F hr hb hd hx I .nil h)

theorem pe_meth {pl : Sem Bool} (he : PE X o ta) (c : Cls X.K C) (hm : Meth X.K C m f) (F : FnOk X.prog X.w X.K X.mg X.base CX k f fd ps sp) (hr : Room k X.A) (hb : Binds X.K fd ps ds) (hd : Vals dvs ds) (hx : Passes CX X E) (ha : PA X (e :: es) t)
    (hst : starEach (e :: es) X.env = (false, eval e X.env) :: starEach es X.env := by rfl) (hpl : (backTo pos (starEach es X.env)).any (·.1) = false := by rfl)
    (ht : eval (.Call (.Attribute o m apos) (e :: es) [] pos) X.env = (do
      let ov ← eval o X.env
      standAt apos.atName
      let (f, first) ← holding [ov] (getMethod ov m pl)
      callWith pos f first (backTo pos (starEach (e :: es) X.env)) (backToKw pos (keywordEach [] X.env))) := by rfl) :
    PE X (.Call (.Attribute o m apos) (e :: es) [] pos) (tMeth C m sp dvs E ta t) := by
  intro pins s σ H Q I h
  refine PySem.W.methodCall_KW (pl := pl) (thn (he pins s σ H _ I h) fun u s1 ⟨x, H1, I1, rx, a, dx, fs, ex, ea, l, q⟩ => ?_) ht
  subst ex
  obtain rfl : u = Value.ref a := rx
  refine getmeth_ok I1 ea c hm l ?_
  refine PySem.W.callWith_K (first := [.ref a]) (h₀ := X.base) I.ok.mod.kin hm.kp (thn (ha pos pins s1 σ H1 _ I1 q) fun us s2 ⟨vs, H2, I2, r, q2⟩ => ⟨I2.kIn, ?_⟩) hst hpl
  exact run_fn (us := .ref a :: us) (vs := .ref a :: vs) F hr hb hd hx I2 (.cons rfl r) q2
theorem pe_meth0 {pl : Sem Bool} (he : PE X o ta) (c : Cls X.K C) (hm : Meth X.K C m f) (F : FnOk X.prog X.w X.K X.mg X.base CX k f fd ps sp) (hr : Room k X.A) (hb : Binds X.K fd ps ds) (hd : Vals dvs ds) (hx : Passes CX X E)
    (ht : eval (.Call (.Attribute o m apos) [] [] pos) X.env = (do
      let ov ← eval o X.env
      standAt apos.atName
      let (f, first) ← holding [ov] (getMethod ov m pl)
      callWith pos f first (backTo pos (starEach [] X.env)) (backToKw pos (keywordEach [] X.env))) := by rfl) :
    PE X (.Call (.Attribute o m apos) [] [] pos) (tMeth C m sp dvs E ta tNil) := by
  intro pins s σ H Q I h
  refine PySem.W.methodCall_KW (pl := pl) (thn (he pins s σ H _ I h) fun u s1 ⟨x, H1, I1, rx, a, dx, fs, ex, ea, l, q⟩ => ?_) ht
  subst ex
  obtain rfl : u = Value.ref a := rx
  refine getmeth_ok I1 ea c hm l ?_
  exact PySem.W.callWith_K0 (first := [.ref a]) I1.kIn hm.kp (run_fn (us := [.ref a]) (vs := [.ref a]) F hr hb hd hx I1 (.cons rfl .nil) q)

structure Mk (K : PySem.W.Frag) (C f : Addr) : Prop where
  makes : PySem.W.makesIn K C = true
  init : PySem.W.findIn K (.ref C) "__init__" = some (some (.ref f))
  fn : PySem.W.isFn K (.ref f) = true
  kp : PySem.W.keepIn K (.ref C) = true

theorem run_make {pins : List (Addr × Obj)} {σ : St} {H : Hp} {s : Shared} {Q : VK} {us : List Value} {vs : List V} (M : Mk X.K C f) (F : FnOk X.prog X.w X.K X.mg X.base CX k f fd ps sp) (hr : Room (k + 1) X.A) (hb : Binds X.K fd ps ds) (hd : Vals dvs ds)
    (hx : Passes CX X E) (I : Inv X pins σ H s) (r : Vals vs us)
    (h : ∀ x dx, H x = none → H dx = none → dx ≠ x → sp (.ref x :: (vs ++ dvs)) (upd (upd H dx (.own x)) x (.ins C dx [])) (fun v H2 => v = .non ∧ Q (.ref x) H2) E) :
    wpAny (model X.prog X.w) X.A (call (.ref C) us) (EP X pins σ Q) X.xe s := by
  have hq := h (s.heap.objs.size + 1) s.heap.objs.size (I.hok.fresh (Nat.le_succ _)) (I.hok.fresh (Nat.le_refl _)) (Nat.ne_of_lt (Nat.lt_succ_self _))
  have I2 := Inv.made (C := C) I
  have r2 : Vals (V.ref (s.heap.objs.size + 1) :: (vs ++ dvs)) (Value.ref (s.heap.objs.size + 1) :: (us ++ ds)) := .cons rfl (r.append hd)
  have hl : (Value.ref (s.heap.objs.size + 1) :: us ++ ds).length = ps.length := by
    have e := r2.length
    rw [F.len _ _ _ _ hq] at e
    exact e.symm
  refine wpAny_call (make_map (f := f) I.kIn M.makes M.init (beq_iff_eq.mp M.fn) (codeAny_mono (F.run _ X.stack _ _ ⟨Value.ref (s.heap.objs.size + 1) :: us, []⟩ (Value.ref (s.heap.objs.size + 1) :: (us ++ ds)) _ _ E (hr.make C us [])
    (I2.env0.make C us []) (hb _ (Value.ref (s.heap.objs.size + 1) :: us) I2.kIn hl) r2 hq) fun r s' hq' => ?_))
  cases r with
  | error e => exact hx pins σ _ _ e s' I2 hq'
  | ok fl =>
    cases fl with
    | ret u =>
      obtain ⟨v, H', I3, rv, ev, q3⟩ := I2.after hq'
      subst ev
      exact ⟨rv, ⟨V.ref (s.heap.objs.size + 1), H', I3, rfl, q3⟩⟩
    | next => exact False.elim hq'
    | brk => exact False.elim hq'
    | cont => exact False.elim hq'
theorem pe_make (M : Mk X.K C f) (F : FnOk X.prog X.w X.K X.mg X.base CX k f fd ps sp) (hr : Room (k + 1) X.A) (hg : Gl X x) (hm : X.mg x = some (.ref C)) (hb : Binds X.K fd ps ds) (hd : Vals dvs ds) (hx : Passes CX X E)
    (ha : PA X (e :: es) t) (hdb : (x == ("__debug__" : Str)) = false := by decide) (he : starEach (e :: es) X.env = (false, eval e X.env) :: starEach es X.env := by rfl) (hpl : (backTo pos (starEach es X.env)).any (·.1) = false := by rfl) :
    PE X (.Call (.Name x p) (e :: es) [] pos) (tMake C sp dvs E t) := by
  intro pins s σ H Q I h
  refine wpAny_Call_Name_kw (ld_glob I hg hm ?_ hdb)
  refine PySem.W.callWith_K (h₀ := X.base) I.ok.mod.kin M.kp (thn (ha pos pins s σ H _ I h) fun us s1 ⟨vs, H1, I1, r, q⟩ => ⟨I1.kIn, ?_⟩) he hpl
  exact run_make M F hr hb hd hx I1 r q
theorem pe_make0 (M : Mk X.K C f) (F : FnOk X.prog X.w X.K X.mg X.base CX k f fd ps sp) (hr : Room (k + 1) X.A) (hg : Gl X x) (hm : X.mg x = some (.ref C)) (hb : Binds X.K fd ps ds) (hd : Vals dvs ds) (hx : Passes CX X E)
    (hdb : (x == ("__debug__" : Str)) = false := by decide) : PE X (.Call (.Name x p) [] [] pos) (tMake C sp dvs E tNil) := by
  intro pins s σ H Q I h
  refine wpAny_Call_Name_kw (ld_glob I hg hm ?_ hdb)
  exact PySem.W.callWith_K0 I.kIn M.kp (run_make (us := []) M F hr hb hd hx I .nil h)
end

def PK (X : Cx) (kws : List Keyword) (t : TA) : Prop :=
  ∀ (pos : Pos) (pins : List (Addr × Obj)) (s : Shared) (σ : St) (H : Hp) (Q : List V → Hp → Prop), Inv X pins σ H s → t σ H Q → wpAny (model X.prog X.w) X.A (evalAll ((backToKw pos (keywordEach kws X.env)).map (·.2))) (AP X pins σ Q) X.xe s
section
variable {X : Cx} {CX : CXT} {k : Nat} {f C : Addr} {fd : FuncData} {ps ks : List Str} {sp : Sp} {E : XK} {x m : Str} {p pos apos kpos : Pos} {e o : Expr} {es : List Expr} {kws : List Keyword} {te ta : TE} {t tk : TA} {nm : Option Str}
theorem pk_nil : PK X [] tNil := fun _ _ _ _ H Q I h => wpAny_evalAll_nil ⟨[], H, I, .nil, h⟩
theorem pk_cons (ha : PE X e te) (hr : PK X kws t) : PK X (⟨nm, e, kpos⟩ :: kws) (tCons te t) := by
  intro pos pins s σ H Q I h
  show wpAny _ _ (evalAll ((do let v ← eval e X.env; standAt pos; pure v) :: (backToKw pos (keywordEach kws X.env)).map (·.2))) _ _ s
  refine wpAny_evalAll_cons (wpAny_bind (thn (ha pins s σ H _ I h) fun u s1 ⟨x, H1, I1, r1, q1⟩ => wpAny_bind (wpAny_standAt (wpAny_pure ?_))))
  exact thn (hr pos pins s1 σ H1 _ I1 q1) fun us s2 ⟨xs, H2, I2, r2, q2⟩ => ⟨x :: xs, H2, I2, .cons r1 r2, q2⟩

structure KBinds (K : PySem.W.Frag) (fd : FuncData) (ps ks : List Str) (g : List Value → List Value → List Value) (gV : List V → List V → List V) : Prop where
  to : ∀ (s : Shared) (us ws : List Value), K.In s.heap → (g us ws).length = ps.length → BindsTo s fd ⟨us, ks.zip ws⟩ (ps.zip (g us ws))
  rel : ∀ {vs : List V} {us : List Value} {zs : List V} {ws : List Value}, Vals vs us → Vals zs ws → Vals (gV vs zs) (g us ws)
def tCallK (sp : Sp) (gV : List V → List V → List V) (E : XK) (t tk : TA) : TE := fun σ H Q => t σ H fun vs H1 => tk σ H1 fun zs H2 => sp (gV vs zs) H2 Q E
variable {g : List Value → List Value → List Value} {gV : List V → List V → List V}
theorem run_fnk {pins : List (Addr × Obj)} {σ : St} {H : Hp} {s : Shared} {Q : VK} {us ws : List Value} {vs zs : List V} (F : FnOk X.prog X.w X.K X.mg X.base CX k f fd ps sp) (hr : Room k X.A) (hb : KBinds X.K fd ps ks g gV) (hx : Passes CX X E)
    (I : Inv X pins σ H s) (r : Vals vs us) (rz : Vals zs ws) (h : sp (gV vs zs) H Q E) : wpAny (model X.prog X.w) X.A (call (.ref f) us (ks.zip ws)) (EP X pins σ Q) X.xe s := by
  have r2 := hb.rel r rz
  have hl : (g us ws).length = ps.length := by rw [← r2.length]; exact F.len _ _ _ _ h
  refine wpAny_call (codeAny_mono (F.run X.A X.stack s H ⟨us, ks.zip ws⟩ (g us ws) (gV vs zs) Q E hr I.env0 (hb.to s us ws I.kIn hl) r2 h) fun r s' hq => ?_)
  cases r with
  | error e => exact hx pins σ H s e s' I hq
  | ok fl =>
    cases fl with
    | ret u => exact I.after hq
    | next => exact False.elim hq
    | brk => exact False.elim hq
    | cont => exact False.elim hq
theorem pe_callK (F : FnOk X.prog X.w X.K X.mg X.base CX k f fd ps sp) (hr : Room k X.A) (hg : Gl X x) (hm : X.mg x = some (.ref f)) (hk : PySem.W.keepIn X.K (.ref f) = true) (hb : KBinds X.K fd ps ks g gV) (hx : Passes CX X E)
    (ha : PA X (e :: es) t) (hkw : PK X kws tk) (hall : (backToKw pos (keywordEach kws X.env)).all (·.1.isSome) = true := by rfl) (hks : (backToKw pos (keywordEach kws X.env)).filterMap (·.1) = ks := by rfl)
    (hdb : (x == ("__debug__" : Str)) = false := by decide) (he : starEach (e :: es) X.env = (false, eval e X.env) :: starEach es X.env := by rfl)
    (hpl : ((backTo pos (starEach (e :: es) X.env)).any (·.1) || (backToKw pos (keywordEach kws X.env)).any (·.1.isNone)) = false := by rfl) :
    PE X (.Call (.Name x p) (e :: es) kws pos) (tCallK sp gV E t tk) := by
  intro pins s σ H Q I h
  refine wpAny_Call_Name_kw (ld_glob I hg hm ?_ hdb)
  refine PySem.W.callWith_KW (h₀ := X.base) I.ok.mod.kin hk hall (thn (ha pos pins s σ H _ I h) fun us s1 ⟨vs, H1, I1, r, q⟩ => ?_) hpl he
  refine thn (hkw pos pins s1 σ H1 _ I1 q) fun ws s2 ⟨zs, H2, I2, rz, q2⟩ => ⟨I2.kIn, ?_⟩
  rw [hks]
  exact run_fnk F hr hb hx I2 r rz q2
end

structure FnScope (N P : List Str) (sc : Scope) : Prop where
  kind : sc.kind = .function
  co : sc.isCoroutine = false
  gen : sc.isGenerator = false
  nd : N.Nodup
  pre : N.take P.length = P
  par : ∀ x ∈ P, sc.names.lookup x = some .local ∨ sc.names.lookup x = some .cell
  nofree : ∀ y ∈ sc.names, y.2 ≠ .free

theorem bindL_out {kindOf : Str → Option NameKind} {x : Str} : ∀ {binds : List (Str × Value)} {m : Str → Option Value}, (∀ v, (x, v) ∉ binds) → bindL kindOf binds m x = m x
  | [], _, _ => rfl
  | (n, v) :: r, m, h => by
    unfold bindL
    rw [bindL_out fun w hw => h w (List.mem_cons_of_mem _ hw)]
    split
    · have : x ≠ n := by rintro rfl; exact h v List.mem_cons_self
      simp [this]
    · rfl
theorem bindC_out {kindOf : Str → Option NameKind} {x : Str} : ∀ {binds : List (Str × Value)} {m : Str → Option Value}, (∀ v, (x, v) ∉ binds) → bindC kindOf binds m x = m x
  | [], _, _ => rfl
  | (n, v) :: r, m, h => by
    unfold bindC
    rw [bindC_out fun w hw => h w (List.mem_cons_of_mem _ hw)]
    split
    · rfl
    · have : x ≠ n := by rintro rfl; exact h v List.mem_cons_self
      simp [this]
theorem bindL_get {kindOf : Str → Option NameKind} {x : Str} {v : Value} : ∀ {P : List Str} {vs : List Value} {i : Nat} {m : Str → Option Value}, P.Nodup → P[i]? = some x → vs[i]? = some v → kindOf x = some .local →
    bindL kindOf (P.zip vs) m x = some v
  | [], _, _, _, _, h, _, _ => by simp at h
  | _ :: _, [], _, _, _, _, h, _ => by simp at h
  | p :: P, w :: vs, 0, m, nd, h1, h2, hk => by
    simp at h1 h2; subst h1; subst h2
    show bindL kindOf ((p, w) :: P.zip vs) m p = _
    unfold bindL
    rw [bindL_out fun v hv => (List.nodup_cons.mp nd).1 (List.of_mem_zip hv).1, if_pos hk]
    simp
  | p :: P, w :: vs, i + 1, m, nd, h1, h2, hk => by
    show bindL kindOf ((p, w) :: P.zip vs) m x = _
    unfold bindL
    exact bindL_get (i := i) (List.nodup_cons.mp nd).2 (by simpa using h1) (by simpa using h2) hk
theorem bindC_get {kindOf : Str → Option NameKind} {x : Str} {v : Value} : ∀ {P : List Str} {vs : List Value} {i : Nat} {m : Str → Option Value}, P.Nodup → P[i]? = some x → vs[i]? = some v → kindOf x ≠ some .local →
    bindC kindOf (P.zip vs) m x = some v
  | [], _, _, _, _, h, _, _ => by simp at h
  | _ :: _, [], _, _, _, _, h, _ => by simp at h
  | p :: P, w :: vs, 0, m, nd, h1, h2, hk => by
    simp at h1 h2; subst h1; subst h2
    show bindC kindOf ((p, w) :: P.zip vs) m p = _
    unfold bindC
    rw [bindC_out fun v hv => (List.nodup_cons.mp nd).1 (List.of_mem_zip hv).1, if_neg hk]
    simp
  | p :: P, w :: vs, i + 1, m, nd, h1, h2, hk => by
    show bindC kindOf ((p, w) :: P.zip vs) m x = _
    unfold bindC
    exact bindC_get (i := i) (List.nodup_cons.mp nd).2 (by simpa using h1) (by simpa using h2) hk

def start (N : List Str) (vs : List V) : St := vs.map some ++ List.replicate (N.length - vs.length) none

def cxOf (CX : CXT) (P : Program) (w : World) (K : PySem.W.Frag) (mg : Str → Option Value) (base : Heap) (N : List Str) (qual : Str) (scope : Scope) (f : Addr) (cd : Value) (A : Around) (outer : List Env) (s : Shared) (H : Hp) (E : XK) : Cx where
  prog := P
  w := w
  K := K
  mg := mg
  base := base
  A := A.deeper (envOfC qual scope s.heap.objs.size f cd)
  N := N
  s₀ := s
  H₀ := H
  env := envOfC qual scope s.heap.objs.size f cd
  outer := outer
  stack := envOfC qual scope s.heap.objs.size f cd :: outer
  ex := []
  calm := true
  fn := fun _ => true
  pn := []
  xe := fun e s' => wpAny (model P w) (A.deeper (envOfC qual scope s.heap.objs.size f cd)) (leaving (envOfC qual scope s.heap.objs.size f cd) e) (fun _ s'' => CX outer H s E e s'') (fun e' s'' => CX outer H s E e' s'') s'

theorem cell_has {sc : Scope} {n : Nat} {x : Str} (h : sc.names.lookup x = some .cell) : ∃ c, (cellsFrom n sc.names []).lookup x = some c := by
  have q := PySem.W.cellsFrom_some sc.names n [] (.inl h)
  exact Option.isSome_iff_exists.mp q

theorem inv_start {CX : CXT} {P : Program} {w : World} {K : PySem.W.Frag} {mg : Str → Option Value} {base : Heap} {N ps : List Str} {qual : Str} {scope : Scope} {f : Addr} {cd : Value} {A : Around} {outer : List Env} {s s1 : Shared} {H : Hp} {E : XK} {us : List Value} {vs : List V}
    (S : FnScope N ps scope) (hd : A.handled = none) (e0 : Env0 P w K mg base A outer s H) (hl : vs.length = ps.length) (r : Vals vs us)
    (x : InCallC s s.heap.objs.size (bindL (envOfC qual scope s.heap.objs.size f cd).kindOf (ps.zip us) fun _ => none) (cellsFrom (s.heap.objs.size + 1) scope.names []) (bindC (envOfC qual scope s.heap.objs.size f cd).kindOf (ps.zip us) fun _ => none) s1) :
    Inv (cxOf CX P w K mg base N qual scope f cd A outer s H E) [] (start N vs) H s1 := by
  have hpl : ps.length ≤ N.length := by have := congrArg List.length S.pre; rw [List.length_take] at this; omega
  obtain ⟨h1, tk, rfl, hk⟩ := x.done
  have noA : ∀ b : Addr, b ∉ (cxOf CX P w K mg base N qual scope f cd A outer s H E).ex := fun b z => absurd (show b ∈ ([] : List Addr) from z) (by simp)
  refine ⟨⟨e0.mod, S.kind, rfl, rfl, Nat.le_refl _, fun y z c h1 h2 => ?_, fun y hy => ?_, fun y c _ h => ?_, fun _ => hd, Around.frames_deeper e0.frames, .inr ⟨rfl, rfl⟩, fun b z => absurd z (noA b), e0.bs, e0.bsz, fun b _ _ => noA b, fun b z => absurd z (noA b), e0.funs, e0.frf⟩,
    rfl, e0.bare, Un.kept hk, ⟨_, x.toInCall.ns, fun i y v h1 h2 h3 => ?_⟩, fun y c h => ⟨_, x.cell y c h⟩, e0.hok.fresh (Nat.le_refl _), fun y c h => ?_, fun p hp => absurd (show p ∈ ([] : List (Addr × Obj)) from hp) (by simp), e0.hok.kept hk, ?_⟩
  · exact name_of_addr x.apart (PySem.mem_of_lookup h1) (PySem.mem_of_lookup h2)
  · have hy : scope.names.lookup y = some .cell ∨ scope.names.lookup y = some .free := hy
    rcases hy with hy | hy
    · exact cell_has hy
    · exact absurd rfl (S.nofree _ (PySem.mem_of_lookup hy))
  · exact Nat.le_of_lt (x.above y c (PySem.mem_of_lookup h))
  · have hi : i < vs.length := by
      unfold start at h2
      by_cases hi : i < vs.length
      · exact hi
      · rw [List.getElem?_append_right (by simpa using hi)] at h2
        rw [List.getElem?_replicate] at h2
        split at h2 <;> cases h2
    have ha : vs[i]? = some v := by
      unfold start at h2
      rw [List.getElem?_append_left (by simpa using hi), List.getElem?_map] at h2
      cases e : vs[i]? with
      | none => rw [e] at h2; cases h2
      | some a => rw [e] at h2; cases h2; rfl
    obtain ⟨u, hu, rv⟩ := r.get ha
    have hp : ps[i]? = some y := by
      rw [← S.pre, List.getElem?_take_of_lt (by omega)]; exact h1
    have ndP : ps.Nodup := by rw [← S.pre]; exact S.nd.sublist (List.take_sublist _ _)
    refine ⟨u, rv, ?_⟩
    rcases S.par y (List.mem_of_getElem? hp) with k | k
    · exact .inl ⟨k, bindL_get ndP hp hu k⟩
    · obtain ⟨c, e⟩ := cell_has (n := s.heap.objs.size + 1) k
      refine .inr ⟨.inl k, c, e, ?_⟩
      have q := x.cell y c e
      rw [bindC_get ndP hp hu (by show scope.names.lookup y ≠ _; rw [k]; decide)] at q
      exact q
  · exact e0.hok.fresh (Nat.le_of_lt (x.above y c (PySem.mem_of_lookup h)))
  · unfold start
    show _ = N.length
    rw [List.length_append, List.length_map, List.length_replicate]
    omega

theorem fn_of {CX : CXT} {P : Program} {w : World} {K : PySem.W.Frag} {mg : Str → Option Value} {base : Heap} {k : Nat} {f : Addr} {name qual : Str} {params : Arguments} {body : List Stmt} {scope : Scope} {dV kV doc pm cdv ct oc : Value} {an od : Option Addr}
    {osl : Array (Option Value)} {N ps : List Str} {sp : Sp} (lk : K.lookup f = some ⟨oc, od, .func (PySem.W.fnOf name qual params body scope dV kV doc pm an cdv ct), osl⟩) (hcd : PySem.W.codeIn K cdv qual = true) (S : FnScope N ps scope)
    (len : ∀ vs H Q E, sp vs H Q E → vs.length = ps.length)
    (hbody : ∀ (A : Around) (outer : List Env) (s : Shared) (H : Hp) (vs : List V) (Q : VK) (E : XK), Room k (A.deeper (envOfC qual scope s.heap.objs.size f cdv)) → sp vs H Q E →
      ∃ t, PSs (cxOf CX P w K mg base N qual scope f cdv A outer s H E) body t ∧ t { nx := fun _ H' => Q .non H', rt := Q } (start N vs) H) :
    FnOk P w K mg base CX (k + 1) f (PySem.W.fnOf name qual params body scope dV kV doc pm an cdv ct) ps sp := by
  refine ⟨len, fun A outer s H args us vs Q E hr e0 hb r hsp => ?_⟩
  have hl := len _ _ _ _ hsp
  have KX : K.In s.heap := e0.mod.kin.keeps fun b o e => (e0.bs b o e).1
  have lim : s.heap.NoLimit := e0.mod.nolimit.keeps fun b o e => (e0.bs b o e).1
  have hkind : ∀ y ∈ ps.zip us, scope.names.lookup y.1 = some .local ∨ (scope.names.lookup y.1 = some .cell ∧ ((cellsFrom (s.heap.objs.size + 1) scope.names []).lookup y.1).isSome = true) := fun ⟨n, v⟩ hy => by
    rcases S.par n (List.of_mem_zip hy).1 with q | q
    · exact .inl q
    · exact .inr ⟨q, PySem.W.cellsFrom_some _ _ _ (.inl q)⟩
  refine codeAny_call_function hr.depth (KX _ _ lk) rfl S.co S.gen rfl (PySem.W.codeRec_of KX hcd) (hb _ _ _ _ ?_)
  refine wpAny_newFunctionEnv_cells S.kind hkind fun env he s1 x => ?_
  subst he
  refine ⟨lim.keeps x.toInCall.keep, codeAny_func ?_⟩
  obtain ⟨t, ht, hq⟩ := hbody A outer s H vs Q E (hr.deeper _) hsp
  have I : Inv (cxOf CX P w K mg base N qual scope f cdv A outer s H E) [] (start N vs) H s1 := inv_start S hr.hd e0 hl r x
  refine wpAny_mono (ht [] s1 (start N vs) H _ I hq) (fun fl s' hs => ?_) fun e s' hs => hs
  have fin : ∀ {σ' : St} {H' : Hp} {v : V} {u : Value}, Inv (cxOf CX P w K mg base N qual scope f cdv A outer s H E) [] σ' H' s' → RelV v u → Q v H' → CE outer P w H s Q u s' :=
    fun {σ' H' v u} J rv q => ⟨v, H', J.os, J.bare, J.base, J.hok, rv, q⟩
  cases fl with
  | ret u =>
    obtain ⟨v, σ', H', J, rv, q⟩ := hs
    exact fin J rv q
  | next =>
    obtain ⟨σ', H', J, q⟩ := hs
    exact fin (v := V.non) (u := Value.none) J rfl q
  | brk =>
    obtain ⟨_, _, _, q⟩ := hs
    exact False.elim q
  | cont =>
    obtain ⟨_, _, _, q⟩ := hs
    exact False.elim q
end L2

namespace L2
open PySem PySem.Spec PyProof.Rows
section
variable {X : Cx} {x : Str} {p pos : Pos} {e : Expr} {es : List Expr} {t : TA} {id T : String} {r : List V → Hp → VK → Prop}

def tCB (r : List V → Hp → VK → Prop) (t : TA) : TE := fun σ H Q => t σ H fun vs H1 => r vs H1 Q
theorem pe_callB (hc : CallR X (.builtin id) r) (hg : Gl X x) (hm : X.mg x = none) (hv : bootBuiltins x = some (.builtin id)) (ha : PA X (e :: es) t) (hn : x ≠ "__name__" := by decide) (hdb : (x == ("__debug__" : Str)) = false := by decide)
    (he : starEach (e :: es) X.env = (false, eval e X.env) :: starEach es X.env := by rfl) (hpl : (backTo pos (starEach es X.env)).any (·.1) = false := by rfl) : PE X (.Call (.Name x p) (e :: es) [] pos) (tCB r t) := by
  intro pins s σ H Q I h
  refine wpAny_Call_Name_kw (ld_blt I hg hm hv ?_ hn hdb)
  exact PyProof.Rows.callWith_builtin1 (thn (ha pos pins s σ H _ I h) fun us s1 ⟨vs, H1, I1, r1, q1⟩ => hc pins s1 σ H1 vs us Q I1 r1 q1) he hpl
theorem pe_callTy (hc : CallR X (.type T) r) (hg : Gl X x) (hm : X.mg x = none) (hv : bootBuiltins x = some (.type T)) (ha : PA X (e :: es) t) (hn : x ≠ "__name__" := by decide) (hdb : (x == ("__debug__" : Str)) = false := by decide)
    (he : starEach (e :: es) X.env = (false, eval e X.env) :: starEach es X.env := by rfl) (hpl : (backTo pos (starEach es X.env)).any (·.1) = false := by rfl) : PE X (.Call (.Name x p) (e :: es) [] pos) (tCB r t) := by
  intro pins s σ H Q I h
  refine wpAny_Call_Name_kw (ld_blt I hg hm hv ?_ hn hdb)
  exact PyProof.Rows.callWith_type1 (thn (ha pos pins s σ H _ I h) fun us s1 ⟨vs, H1, I1, r1, q1⟩ => hc pins s1 σ H1 vs us Q I1 r1 q1) he hpl
theorem pe_callTy0 (hc : CallR X (.type T) r) (hg : Gl X x) (hm : X.mg x = none) (hv : bootBuiltins x = some (.type T)) (hn : x ≠ "__name__" := by decide) (hdb : (x == ("__debug__" : Str)) = false := by decide) :
    PE X (.Call (.Name x p) [] [] pos) (tCB r tNil) := by
  intro pins s σ H Q I h
  refine wpAny_Call_Name_kw (ld_blt I hg hm hv ?_ hn hdb)
  exact PyProof.Rows.callWith_type0 (hc pins s σ H [] [] Q I .nil h)
end
end L2

namespace HT
open PySem PyProof.Rows

def lexLt : List Int → List Int → Bool
  | [], [] => false
  | [], _ :: _ => true
  | _ :: _, [] => false
  | x :: xs, y :: ys => if x = y then lexLt xs ys else decide (x < y)
theorem lexLt_cons (x y : Int) (xs ys : List Int) : lexLt (x :: xs) (y :: ys) = if x = y then lexLt xs ys else decide (x < y) := rfl
theorem lexLt_nil_nil : lexLt [] [] = false := rfl
theorem lexLt_nil_cons (y : Int) (ys : List Int) : lexLt [] (y :: ys) = true := rfl
theorem lexLt_cons_nil (x : Int) (xs : List Int) : lexLt (x :: xs) [] = false := rfl

theorem eqAt_int (A : Around) (s : Shared) (a : Int) (t : Tok) (c : Int) (u : Tok) : ∃ e, SeqAt.EqAt A s (.int a t) (.int c u) e ∧ (e = true ↔ a = c) :=
  ⟨(a == c), SeqAt.EqAt.int_int a t c u, by simp⟩
theorem rcLt_int (A : Around) (s : Shared) (a : Int) (t : Tok) (c : Int) (u : Tok) (prog : Program) (w : World) (E : Value → Shared → Prop) (Q : Value → Shared → Prop) (h : Q (.bool (decide (a < c))) s) :
    wpAny (model prog w) A (richCompare .Lt (.int a t) (.int c u)) Q E s :=
  (PyProof.Rows.lt_int h : wpAny (model prog w) A (compareOp .Lt (.int a t) (.int c u)) Q E s)

section
open PySem.SeqAt
open PySem.AutoSeq1 (wpAny_loadPart')
open PySem.MeetsSeq PySem.MeetsSeq2 PySem.MeetsSeq3

theorem tuple_lt_ints (l b : Addr) (items items2 : Array Value) (n n2 : Nat) (dd dd2 : Option Addr) (sl sl2 : Array (Option Value)) (ns ms : List Int) (hi : IntsAre items.toList ns) (hj : IntsAre items2.toList ms) :
    Meets (Builtin.«tuple.__lt__» ⟨[.ref l, .ref b], []⟩)
      (fun _ R s => s.heap.get? l = some { cls := .type "tuple", dict := dd, data := .seq items n, slots := sl } ∧ s.heap.get? b = some { cls := .type "tuple", dict := dd2, data := .seq items2 n2, slots := sl2 } ∧
        R (.ok (.ret (.bool (lexLt ns ms)))) s) :=
  .of_wp fun prog w A R s h => by
    obtain ⟨hp, g, d, tk, os⟩ := s; obtain ⟨hl, hb, h⟩ := h
    have f2 := AutoSeq1.sub_tuple_tuple
    have z1 : items.size = ns.length := by rw [← hi.length]; simp
    have z2 : items2.size = ms.length := by rw [← hj.length]; simp
    wp_walk using wpAny_loadPart' hl, wpAny_loadPart' hb, wpAny_forIn_list _ (fun rest b s' => b.1 = none ∧ s' = ⟨hp, g, d, tk, os⟩ ∧ ∃ (vs ws : List Value) (ns' ms' : List Int), rest = vs.zip ws ∧
      IntsAre vs ns' ∧ IntsAre ws ms' ∧ ns'.length + items2.size = ms'.length + items.size ∧ R (.ok (.ret (.bool (lexLt ns' ms')))) ⟨hp, g, d, tk, os⟩) _
    case turn =>
      rintro ⟨y, x⟩ rest b s' ⟨hb', rfl, vs, ws, ns', ms', hz, hvi, hwi, hlen, hR⟩
      cases hvi with
      | nil => rw [List.zip_nil_left] at hz; cases hz
      | cons a t hvi' =>
        cases hwi with
        | nil => rw [List.zip_nil_right] at hz; cases hz
        | cons c u hwi' =>
          rw [List.zip_cons_cons] at hz
          injection hz with hyx hrest
          injection hyx with hy hx
          subst hy hx
          rw [lexLt_cons] at hR
          simp only [List.length_cons] at hlen
          obtain ⟨e, he, hiff⟩ := eqAt_int A.in1 ⟨hp, g, d, tk, os⟩ a t c u
          refine wpAny_bind (he prog w _ _ ?_)
          cases e with
          | true =>
            rw [if_pos (hiff.mp rfl)] at hR
            wp_walk
            exact ⟨rfl, rfl, _, _, _, _, hrest, hvi', hwi', by omega, hR⟩
          | false =>
            rw [if_neg (fun q => absurd (hiff.mpr q) Bool.false_ne_true)] at hR
            have hri := rcLt_int A.in1 ⟨hp, g, d, tk, os⟩ a t c u prog w
            wp_walk using hri
            exact ⟨_, rfl, by simpa using hR⟩
    case fin =>
      rintro ⟨b1, b2⟩ s' ⟨hb', rfl, vs, ws, ns', ms', hz, hvi, hwi, hlen, hR⟩
      simp only at hb'
      subst hb'
      have hv : lexLt ns' ms' = decide (items.size < items2.size) := by
        cases hvi with
        | nil =>
          cases hwi with
          | nil =>
            simp only [List.length_nil] at hlen
            rw [lexLt_nil_nil]
            exact (decide_eq_false (by omega)).symm
          | cons c u hw =>
            simp only [List.length_nil, List.length_cons] at hlen
            rw [lexLt_nil_cons]
            exact (decide_eq_true (by omega)).symm
        | cons a t hv =>
          cases hwi with
          | nil =>
            simp only [List.length_nil, List.length_cons] at hlen
            rw [lexLt_cons_nil]
            exact (decide_eq_false (by omega)).symm
          | cons c u hw =>
            rw [List.zip_cons_cons] at hz
            cases hz
      rw [hv] at hR
      wp_walk
      exact ⟨_, rfl, by simpa [Builtin.Tuple.tupleCompareSizes] using hR⟩
    case h =>
      exact ⟨rfl, rfl, items.toList, items2.toList, ns, ms, rfl, hi, hj, by omega, h⟩
end

section
variable {prog : Program} {w : World} {A : Around} {E : Value → Shared → Prop} {s : Shared}

theorem lt_tupInts {l b : Addr} {items items2 : Array Value} {ns ms : List Int} {Q : Value → Shared → Prop} (hl : IsTup s.heap l items) (hb : IsTup s.heap b items2) (hi : IntsAre items.toList ns) (hj : IntsAre items2.toList ms)
    (hu : A.units < cLine) (h : Q (.bool (lexLt ns ms)) s) : wpAny (model prog w) A (compareOp .Lt (.ref l) (.ref b)) Q E s := by
  obtain ⟨⟨cls, dd, data, sl⟩, ho, hc, n, hd⟩ := id hl
  obtain ⟨⟨cls2, dd2, data2, sl2⟩, ho2, hc2, n2, hd2⟩ := id hb
  simp only at hc hd hc2 hd2
  subst hc hd hc2 hd2
  exact richCompare_meets_room (op := .Lt) ⟨_, ho, rfl⟩ ⟨_, ho2, rfl⟩ PySem.F.slot_tuple_lt PySem.F.entry_tuple_lt (PySem.F.args_tuple_lt_2 _ _) (tuple_lt_ints l b items items2 n n2 dd dd2 sl sl2 ns ms hi hj)
    ⟨ho, ho2, show Value.bool (lexLt ns ms) ≠ Value.notImplemented ∧ Q (.bool (lexLt ns ms)) s from ⟨(fun x => nomatch x), h⟩⟩ hu

theorem cat_tup {t b : Addr} {vs ws : List Value} {Q : Value → Shared → Prop} (ht : IsTup s.heap t vs.toArray) (hb : IsTup s.heap b ws.toArray) (hv : vs ≠ [])
    (h1 : ws = [] → Q (.ref t) s) (h2 : ws ≠ [] → Q (.ref s.heap.objs.size) { s with heap := s.heap.push { cls := .type "tuple", data := .seq (vs ++ ws).toArray } })
    (hsz : vs.length + ws.length ≤ sizeLine) : wpAny (model prog w) A (binaryOp .Add (.ref t) (.ref b)) Q E s := by
  obtain ⟨⟨cls, dd, data, sl⟩, ho, hc, n, hd⟩ := id ht
  obtain ⟨⟨cls2, dd2, data2, sl2⟩, ho2, hc2, n2, hd2⟩ := id hb
  simp only at hc hd hc2 hd2
  subst hc hd hc2 hd2
  have e : vs.toArray ++ ws.toArray = (vs ++ ws).toArray := by simp
  by_cases hw : ws = []
  · exact concat_meets ⟨_, ho, rfl⟩ ⟨_, ho2, rfl⟩ noFill_tuple_add seq_tuple_add PySem.F.slot_tuple_add PySem.F.entry_tuple_add (PySem.F.args_tuple_add_2 _ _)
      (tuple_addW1 t b vs.toArray ws.toArray n n2 dd dd2 sl sl2 (by simpa using hv) (by simp [hw])) ⟨ho, ho2, h1 hw⟩
  · refine concat_meets ⟨_, ho, rfl⟩ ⟨_, ho2, rfl⟩ noFill_tuple_add seq_tuple_add PySem.F.slot_tuple_add PySem.F.entry_tuple_add (PySem.F.args_tuple_add_2 _ _)
      (tuple_addW2 t b vs.toArray ws.toArray n n2 dd dd2 sl sl2 (by simpa using hv) (by simpa using hw) (by rw [List.size_toArray, List.size_toArray]; exact hsz)) ⟨ho, ho2, ?_⟩
    rw [e]
    exact h2 hw

def sIx (n d : Nat) : Option Int → Nat
  | none => d
  | some v => if v < 0 then (v + (n : Int)).toNat else min v.toNat n
theorem sIx_none (n d : Nat) : sIx n d none = d := rfl
theorem sIx_nat (n d k : Nat) : sIx n d (some (k : Int)) = min k n := by
  show (if (k : Int) < 0 then ((k : Int) + (n : Int)).toNat else min (k : Int).toNat n) = min k n
  rw [if_neg (by omega), Int.toNat_natCast]
theorem sIx_le (n d : Nat) (hd : d ≤ n) (o : Option Int) : sIx n d o ≤ n := by
  cases o with
  | none => exact hd
  | some v =>
    show (if v < 0 then (v + (n : Int)).toNat else min v.toNat n) ≤ n
    by_cases hv : v < 0
    · rw [if_pos hv]; omega
    · rw [if_neg hv]; exact Nat.min_le_right _ _
theorem clip_eq (v : Int) (n d : Nat) : (if v < 0 then max (v + (n : Int)) 0 else min v (n : Int)) = ((sIx n d (some v) : Nat) : Int) := by
  show (if v < 0 then max (v + (n : Int)) 0 else min v (n : Int)) = (((if v < 0 then (v + (n : Int)).toNat else min v.toNat n) : Nat) : Int)
  by_cases hv : v < 0
  · simp only [if_pos hv]; omega
  · simp only [if_neg hv]; omega
theorem adjust_gen (lo hi : Option Int) (n : Nat) : Builtin.Slice.sliceAdjust lo hi 1 (n : Int) = (((sIx n 0 lo : Nat) : Int), ((sIx n n hi : Nat) : Int)) := by
  have h1 : ¬ ((1 : Int) < 0) := by omega
  unfold Builtin.Slice.sliceAdjust
  simp only [h1, if_false]
  refine Prod.ext ?_ ?_
  · cases lo with
    | none => rfl
    | some v => exact clip_eq v n 0
  · cases hi with
    | none => rfl
    | some v => exact clip_eq v n n
theorem places_gen (i j : Nat) : Builtin.Slice.slicePlaces (i : Int) (j : Int) 1 = j - i := by
  unfold Builtin.Slice.slicePlaces
  have h1 : (1 : Int) > 0 := by omega
  simp only [h1, if_true, Int.ediv_one]
  split <;> omega
theorem slicePart_ {v : Value} {o : Option Int} {Q : Option Int → Shared → Prop} (p : IsPart v o) (h : Q o s) : wpAny (model prog w) A (Builtin.Slice.slicePartIndex v) Q E s := by
  cases p with
  | none => exact slicePart_none h
  | int i t => exact slicePart_int h
theorem sliceApplied_gen {sl : Addr} {vl vu : Value} {lo hi : Option Int} {n : Nat} {Q : Int × Int × Nat → Shared → Prop} (hs : s.heap.IsSliceOf sl vl vu .none) (pl : IsPart vl lo) (pu : IsPart vu hi)
    (h : Q (((sIx n 0 lo : Nat) : Int), 1, sIx n n hi - sIx n 0 lo) s) : wpAny (model prog w) A (Builtin.Slice.sliceApplied (.ref sl) (pure (n : Int))) Q E s := by
  obtain ⟨os, hos, hcs, hds⟩ := id hs
  unfold Builtin.Slice.sliceApplied Builtin.Slice.sliceFields
  refine wpAny_bind (wpAny_bind (wpAny_field hos hds (x := vl) rfl (wpAny_bind (wpAny_field hos hds (x := vu) rfl (wpAny_bind (wpAny_field hos hds (x := .none) rfl (wpAny_pure ?_)))))))
  refine wpAny_bind (slicePart_none ?_)
  show wpAny _ _ (if ((1 : Int) == 0) = true then _ else _) _ _ s
  rw [if_neg (by decide)]
  refine wpAny_bind (slicePart_ pl (wpAny_bind (slicePart_ pu (wpAny_bind (wpAny_pure ?_)))))
  show wpAny _ _ (match Builtin.Slice.sliceAdjust lo hi 1 (n : Int) with | (lo, hi) => pure (lo, (1 : Int), Builtin.Slice.slicePlaces lo hi 1)) _ _ s
  rw [adjust_gen lo hi n]
  show wpAny _ _ (pure (((sIx n 0 lo : Nat) : Int), (1 : Int), Builtin.Slice.slicePlaces ((sIx n 0 lo : Nat) : Int) ((sIx n n hi : Nat) : Int) 1)) _ _ s
  rw [places_gen]
  exact wpAny_pure h
theorem pick_gen (xs : Array Value) (i k : Nat) : ((List.range k).filterMap fun (m : Nat) => xs[((i : Int) + (m : Int) * 1).toNat]?).toArray = ((xs.toList.drop i).take k).toArray := by
  have e : (fun (m : Nat) => xs[((i : Int) + (m : Int) * 1).toNat]?) = fun m => xs[i + m]? := by
    funext m
    have : ((i : Int) + (m : Int) * 1).toNat = i + m := by omega
    rw [this]
  rw [e]
  have := pick_run xs i k
  rw [List.filterMap_map] at this
  have e2 : ((fun x => xs[x]?) ∘ fun x => i + x) = fun m => xs[i + m]? := rfl
  rw [e2] at this
  rw [this]

theorem getItem_tuple_cut {t sl : Addr} {items : Array Value} {vl vu : Value} {lo hi : Option Int} {Q : Value → Shared → Prop} (ht : IsTup s.heap t items) (hs : s.heap.IsSliceOf sl vl vu .none) (pl : IsPart vl lo) (pu : IsPart vu hi)
    (hw : ¬ (sIx items.size 0 lo = 0 ∧ sIx items.size items.size hi = items.size))
    (h : Q (.ref s.heap.objs.size) { s with heap := s.heap.push { cls := .type "tuple", data := .seq ((items.toList.drop (sIx items.size 0 lo)).take (sIx items.size items.size hi - sIx items.size 0 lo)).toArray } })
    (hsz : items.size ≤ sizeLine) : wpAny (model prog w) A (getItem (.ref t) (.ref sl)) Q E s := by
  have htake : sizeOk (.seq ((items.toList.drop (sIx items.size 0 lo)).take (sIx items.size items.size hi - sIx items.size 0 lo)).toArray) := by
    show ((items.toList.drop (sIx items.size 0 lo)).take (sIx items.size items.size hi - sIx items.size 0 lo)).toArray.size ≤ sizeLine
    rw [List.size_toArray, List.length_take, List.length_drop, Array.length_toList]
    omega
  have hj : sIx items.size items.size hi ≤ items.size := sIx_le _ _ (Nat.le_refl _) hi
  obtain ⟨os, hos, hcs, hds⟩ := id hs
  have hTs : s.TypeIs (.ref sl) "slice" := ⟨os, hos, hcs⟩
  unfold getItem
  try with_reducible refine wpAny_holding ?_
  first | refine wpAny_bind (wpAny_pure ?_) | skip
  refine wpAny_bind (wpAny_sequenceKey ht.typeIs (by decide) ?_)
  refine wpAny_bind (wpAny_callSpecial?_slot (name := Str.ofString "__getitem__") ht.typeIs PyProof.Rows.slot_tuple_getitem
    (wpAny_call_entry PyProof.Rows.slot_tuple_getitem ht.typeIs entry_tuple_getitem ?_ (args_tuple_getitem _ _)))
  show wpAny _ _ (Builtin.Tuple.tupleItemsOf (.ref t) >>= _) _ _ s
  refine wpAny_bind (tupleItemsOf_ ht ?_)
  refine wpAny_bind (wpAny_typeOf hTs ?_)
  rw [if_pos (by decide)]
  refine wpAny_bind (sliceApplied_gen hs pl pu ?_)
  have hno : ¬ ((((sIx items.size 0 lo : Nat) : Int) == 0 && (1 : Int) == 1 && (sIx items.size items.size hi - sIx items.size 0 lo) == items.size) = true) := by
    intro q
    rw [Bool.and_eq_true, Bool.and_eq_true] at q
    have q1 : ((sIx items.size 0 lo : Nat) : Int) = 0 := eq_of_beq q.1.1
    have q2 : sIx items.size items.size hi - sIx items.size 0 lo = items.size := eq_of_beq q.2
    exact hw ⟨by omega, by omega⟩
  show wpAny _ _ (if (((sIx items.size 0 lo : Nat) : Int) == 0 && (1 : Int) == 1 && (sIx items.size items.size hi - sIx items.size 0 lo) == items.size) = true then _ else _) _ _ s
  rw [if_neg hno, pick_gen]
  first
    | exact wpAny_bind (m := Builtin.Tuple.tupleExact _) (wpAny_newObj_type (wpAny_pure ⟨_, rfl, wpAny_pure h⟩) htake)
    | exact wpAny_bind (m := Builtin.Tuple.tupleExact _) (wpAny_newObj_type (wpAny_bind (wpAny_pure (wpAny_pure ⟨_, rfl, wpAny_pure h⟩))) htake)
    | exact wpAny_bind (wpAny_bind (m := Builtin.Tuple.tupleExact _) (wpAny_newObj_type (wpAny_pure (wpAny_pure ⟨_, rfl, wpAny_pure h⟩)) htake))
    | exact wpAny_bind (wpAny_bind (m := Builtin.Tuple.tupleExact _) (wpAny_newObj_type (wpAny_pure ⟨_, rfl, wpAny_pure h⟩) htake))
end
end HT

namespace L2
open PySem PySem.Spec PyProof.Rows

abbrev TO := St → Hp → (Option Int → Hp → Prop) → Prop
def PO (X : Cx) (e : Option Expr) (t : TO) : Prop :=
  ∀ (pins : List (Addr × Obj)) (s : Shared) (σ : St) (H : Hp) (Q : Option Int → Hp → Prop), Inv X pins σ H s → t σ H Q →
    wpAny (model X.prog X.w) X.A (evalPart e X.env) (fun u s' => ∃ o H', Inv X pins σ H' s' ∧ IsPart u o ∧ Q o H') X.xe s
def tNoPart : TO := fun _ H Q => Q none H
def tPart (t : TE) : TO := fun σ H Q => t σ H fun x H1 => ∃ i, x = .int i ∧ Q (some i) H1

theorem intsAre_of {ns : List Int} : ∀ {us : List Value}, Vals (ns.map V.int) us → IntsAre us ns := by
  induction ns with
  | nil => intro us r; rw [List.map_nil] at r; cases r; exact .nil
  | cons n ns ih =>
    intro us r
    rw [List.map_cons] at r
    cases r with
    | cons r1 r2 =>
      obtain ⟨t, e⟩ := r1
      subst e
      exact .cons n t (ih r2)

section
variable {X : Cx} {e : Expr} {te : TE} {lo hi : Option Expr} {tl th : TO} {pos p2 : Pos}

theorem po_none : PO X none tNoPart := by
  intro pins s σ H Q I h
  rw [evalPart_none]
  exact wpAny_pure ⟨none, H, I, .none, h⟩
theorem po_some (h : PE X e te) : PO X (some e) (tPart te) := by
  intro pins s σ H Q I hw
  rw [evalPart_some]
  refine thn (h pins s σ H _ I hw) fun u s1 ⟨x, H1, I1, r1, q1⟩ => ?_
  obtain ⟨i, rfl, q⟩ := q1
  obtain ⟨t, rfl⟩ := r1
  exact ⟨some i, H1, I1, .int i t, q⟩

def SlR (X : Cx) (r : V → Option Int → Option Int → Hp → VK → Prop) : Prop :=
  ∀ (pins : List (Addr × Obj)) (s : Shared) (σ : St) (H : Hp) (x : V) (v vl vu : Value) (lo hi : Option Int) (sl : Addr) (Q : VK), Inv X pins σ H s → RelV x v → s.heap.IsSliceOf sl vl vu .none → IsPart vl lo → IsPart vu hi → r x lo hi H Q →
    ∃ T id, typeLookup (.type T) "__getitem__" = pure (some (.builtin id)) ∧ s.TypeIs v T ∧ wpAny (model X.prog X.w) X.A (getItem v (.ref sl)) (EP X pins σ Q) X.xe s
theorem SlR.or {r r' : V → Option Int → Option Int → Hp → VK → Prop} (h : SlR X r) (h' : SlR X r') : SlR X (fun x lo hi H Q => r x lo hi H Q ∨ r' x lo hi H Q) := by
  intro pins s σ H x v vl vu lo hi sl Q I rx hs pl pu q
  rcases q with q | q
  · exact h pins s σ H x v vl vu lo hi sl Q I rx hs pl pu q
  · exact h' pins s σ H x v vl vu lo hi sl Q I rx hs pl pu q
def tSl (r : V → Option Int → Option Int → Hp → VK → Prop) (te : TE) (tl th : TO) : TE := fun σ H Q => te σ H fun x H1 => tl σ H1 fun l H2 => th σ H2 fun u H3 => r x l u H3 Q
theorem pe_slice {r : V → Option Int → Option Int → Hp → VK → Prop} (hr : SlR X r) (he : PE X e te) (hl : PO X lo tl) (hu : PO X hi th) : PE X (.Subscript e (.Slice lo hi none p2) pos) (tSl r te tl th) := by
  intro pins s σ H Q I h
  refine Subscript_ (thn (he pins s σ H _ I h) fun v s1 ⟨x, H1, I1, r1, q1⟩ => ?_)
  refine wpAny_Slice (thn (hl pins s1 σ H1 _ I1 q1) fun vl s2 ⟨l, H2, I2, pl, q2⟩ => thn (hu pins s2 σ H2 _ I2 q2) fun vu s3 ⟨u, H3, I3, pu, q3⟩ => ?_)
  rw [evalPart_none]
  refine wpAny_pure ?_
  have I4 : Inv X pins σ H3 { s3 with heap := s3.heap.push { cls := .type "slice", data := .fields #[vl, vu, .none] } } := I3.kept (t' := s3.toks) fun b ob q => Heap.get?_push_of_some _ q
  obtain ⟨T, id, hT, ht, hg⟩ := hr pins { s3 with heap := s3.heap.push { cls := .type "slice", data := .fields #[vl, vu, .none] } } σ H3 x v vl vu l u s3.heap.objs.size Q I4 r1 (Heap.IsSliceOf.new ..) pl pu q3
  show wpAny (model X.prog X.w) X.A (subscriptTail e (.Slice lo hi none p2) v (.ref s3.heap.objs.size)) (EP X pins σ Q) X.xe { s3 with heap := s3.heap.push { cls := .type "slice", data := .fields #[vl, vu, .none] } }
  exact tail_any (ops := [.ref s3.heap.objs.size, v]) ht hT hg (by with_unfolding_all rfl)

def cutV (xs : List V) (lo hi : Option Int) : List V := (xs.drop (HT.sIx xs.length 0 lo)).take (HT.sIx xs.length xs.length hi - HT.sIx xs.length 0 lo)
theorem cutV_length (xs : List V) (lo hi : Option Int) : (cutV xs lo hi).length ≤ xs.length := by
  unfold cutV
  rw [List.length_take, List.length_drop]
  omega
def rSlT (K : PySem.W.Frag) : V → Option Int → Option Int → Hp → VK → Prop := fun x lo hi H Q => ∃ a xs, x = .ref a ∧ SqT K H a xs ∧
  ¬ (HT.sIx xs.length 0 lo = 0 ∧ HT.sIx xs.length xs.length hi = xs.length) ∧ ∀ p, H p = none → Q (.ref p) (upd H p (.tup (cutV xs lo hi)))
theorem sl_tup : SlR X (rSlT X.K) := by
  intro pins s σ H x v vl vu lo hi sl Q I rx hs pl pu h
  obtain ⟨a, xs, rfl, hx, hw, q⟩ := h
  cases rx
  obtain ⟨its, r, ht, hz⟩ := I.tuple hx
  have hlen : its.toArray.size = xs.length := by rw [List.size_toArray]; exact r.length.symm
  refine ⟨"tuple", _, PyProof.Rows.slot_tuple_getitem.lookup, ht.typeIs, ?_⟩
  refine HT.getItem_tuple_cut ht hs pl pu (by rw [hlen]; exact hw) ?_ (by rw [hlen]; exact hz)
  rw [hlen]
  refine ⟨.ref s.heap.objs.size, _, I.laid (t' := s.toks) (o := .tup (cutV xs lo hi)) (fun b ob q => Heap.get?_push_of_some _ q) (Nat.le_refl _) ?_, rfl, q _ (I.hok.fresh (Nat.le_refl _))⟩
  exact ⟨Nat.le_trans (cutV_length xs lo hi) hz, _, (r.drop (HT.sIx xs.length 0 lo)).take (HT.sIx xs.length xs.length hi - HT.sIx xs.length 0 lo), IsTup.new _ _⟩

def rLtT (K : PySem.W.Frag) : R2 := fun x y H Q => ∃ a b ns ms, x = .ref a ∧ y = .ref b ∧ SqT K H a (ns.map V.int) ∧ SqT K H b (ms.map V.int) ∧ Q (.bl (HT.lexLt ns ms)) H
theorem op_ltT (hu : X.A.units < cLine) : OpR X (compareOp .Lt) (rLtT X.K) := by
  intro pins s σ H x y v u Q I rx ry h
  obtain ⟨a, b, ns, ms, rfl, rfl, ha, hb, q⟩ := h
  cases rx
  cases ry
  obtain ⟨its, r1, p1, _⟩ := I.tuple ha
  obtain ⟨its2, r2, p2, _⟩ := I.tuple hb
  have i1 : IntsAre its.toArray.toList ns := intsAre_of r1
  have i2 : IntsAre its2.toArray.toList ms := intsAre_of r2
  exact HT.lt_tupInts p1 p2 i1 i2 hu ⟨.bl (HT.lexLt ns ms), H, I, rfl, q⟩
def rCatT (K : PySem.W.Frag) : R2 := fun x y H Q => ∃ a b xs ys, x = .ref a ∧ y = .ref b ∧ SqT K H a xs ∧ SqT K H b ys ∧ xs ≠ [] ∧ xs.length + ys.length ≤ sizeLine ∧
  (ys = [] → Q (.ref a) H) ∧ (ys ≠ [] → ∀ p, H p = none → Q (.ref p) (upd H p (.tup (xs ++ ys))))
theorem Vals.nil_iff {xs : List V} {us : List Value} (r : Vals xs us) : us = [] ↔ xs = [] := by
  cases r with
  | nil => simp
  | cons _ _ => simp
theorem op_catT : OpR X (binaryOp .Add) (rCatT X.K) := by
  intro pins s σ H x y v u Q I rx ry h
  obtain ⟨a, b, xs, ys, rfl, rfl, ha, hb, hx, hz, q1, q2⟩ := h
  cases rx
  cases ry
  obtain ⟨its, r1, p1, _⟩ := I.tuple ha
  obtain ⟨its2, r2, p2, _⟩ := I.tuple hb
  refine HT.cat_tup p1 p2 (fun z => hx (r1.nil_iff.mp z)) (fun z => ⟨.ref a, H, I, rfl, q1 (r2.nil_iff.mp z)⟩) (fun z => ?_) (by rw [← r1.length, ← r2.length]; exact hz)
  refine ⟨.ref s.heap.objs.size, _, I.laid (t' := s.toks) (o := .tup (xs ++ ys)) (fun b ob q => Heap.get?_push_of_some _ q) (Nat.le_refl _) ?_, rfl, q2 (fun w => z (r2.nil_iff.mpr w)) _ (I.hok.fresh (Nat.le_refl _))⟩
  exact ⟨by rw [List.length_append]; exact hz, _, r1.append r2, IsTup.new _ _⟩
theorem call_tupleT : CallR X (.type "tuple") (fun xs H Q => ∃ a ys, xs = [.ref a] ∧ SqT X.K H a ys ∧ Q (.ref a) H) := by
  intro pins s σ H xs us Q I r h
  obtain ⟨a, ys, rfl, ha, q⟩ := h
  obtain ⟨u, rfl, ru⟩ := vals1 r
  cases ru
  obtain ⟨its, _, p1, _⟩ := I.tuple ha
  exact call_tuple_same (items := its.toArray) p1 ⟨.ref a, H, I, rfl, q⟩
end
end L2

namespace L2
open PySem PySem.Spec PyProof.Rows

def ixN (n : Nat) (i : Int) : Option Nat := if 0 ≤ i then (if i < n then some i.toNat else none) else if -(n : Int) ≤ i then some (i + n).toNat else none
def atI {α : Type} (xs : List α) (i : Int) : Option α := (ixN xs.length i).bind fun j => xs[j]?
theorem ixN_seq {n : Nat} {i : Int} {j : Nat} (h : ixN n i = some j) : seqIndex? i n = some j ∧ j < n ∧ -(n : Int) ≤ i ∧ i < n := by
  unfold ixN at h
  by_cases h0 : 0 ≤ i
  · rw [if_pos h0] at h
    by_cases h1 : i < n
    · rw [if_pos h1] at h
      have e : i.toNat = j := Option.some.inj h
      exact ⟨by rw [seqIndex_of h0 h1, e], by omega, by omega, h1⟩
    · rw [if_neg h1] at h; cases h
  · rw [if_neg h0] at h
    by_cases h1 : -(n : Int) ≤ i
    · rw [if_pos h1] at h
      have e : (i + n).toNat = j := Option.some.inj h
      exact ⟨by rw [seqIndex_neg (by omega) h1, e], by omega, h1, by omega⟩
    · rw [if_neg h1] at h; cases h
theorem atI_get {α : Type} {xs : List α} {i : Int} {v : α} (h : atI xs i = some v) : ∃ j, seqIndex? i xs.length = some j ∧ xs[j]? = some v ∧ j < xs.length ∧ -(xs.length : Int) ≤ i ∧ i < xs.length := by
  unfold atI at h
  cases e : ixN xs.length i with
  | none => rw [e] at h; cases h
  | some j =>
    rw [e] at h
    obtain ⟨h1, h2, h3, h4⟩ := ixN_seq e
    exact ⟨j, h1, h, h2, h3, h4⟩
theorem atI_nat {α : Type} {xs : List α} {j : Nat} {v : α} (h : xs[j]? = some v) : atI xs (j : Int) = some v := by
  have hj : j < xs.length := (List.getElem?_eq_some_iff.mp h).1
  have e : ixN xs.length (j : Int) = some j := by
    unfold ixN
    rw [if_pos (by omega), if_pos (by omega)]; simp
  unfold atI; rw [e]; exact h
theorem atI_last {α : Type} (xs : List α) (v : α) : atI (xs ++ [v]) (-1) = some v := by
  have hl : (xs ++ [v]).length = xs.length + 1 := by simp
  have e : ixN (xs ++ [v]).length (-1) = some xs.length := by
    unfold ixN
    rw [hl, if_neg (by decide), if_pos (by omega)]
    congr 1
    omega
  unfold atI
  rw [e]
  show (xs ++ [v])[xs.length]? = some v
  simp

def PlainIx (b : Expr) : Prop := ∀ o i, subscripted b false o i = operate [o, i] (getItem o i)
def IxR (X : Cx) (r : R2) : Prop :=
  ∀ (value slice : Expr) (pins : List (Addr × Obj)) (s : Shared) (σ : St) (H : Hp) (x y : V) (v u : Value) (Q : VK), Inv X pins σ H s → RelV x v → RelV y u → r x y H Q →
    subscripted slice false v u = operate [v, u] (getItem v u) → wpAny (model X.prog X.w) X.A (subscriptTail value slice v u) (EP X pins σ Q) X.xe s
def MtR (X : Cx) (id : String) (r : V → List V → Hp → VK → Prop) : Prop :=
  ∀ (pins : List (Addr × Obj)) (s : Shared) (σ : St) (H : Hp) (x : V) (xs : List V) (v : Value) (us : List Value) (Q : VK), Inv X pins σ H s → RelV x v → Vals xs us → r x xs H Q →
    wpAny (model X.prog X.w) X.A (call (.builtin id) (v :: us)) (EP X pins σ Q) X.xe s
section
variable {X : Cx} {a b : Expr} {ta tb : TE} {pos : Pos}
theorem IxR.or {r r' : R2} (h : IxR X r) (h' : IxR X r') : IxR X (fun x y H Q => r x y H Q ∨ r' x y H Q) := by
  intro value slice pins s σ H x y v u Q I rx ry q hs
  rcases q with q | q
  · exact h value slice pins s σ H x y v u Q I rx ry q hs
  · exact h' value slice pins s σ H x y v u Q I rx ry q hs
theorem MtR.or {id : String} {r r' : V → List V → Hp → VK → Prop} (h : MtR X id r) (h' : MtR X id r') : MtR X id (fun x xs H Q => r x xs H Q ∨ r' x xs H Q) := by
  intro pins s σ H x xs v us Q I rx rs q
  rcases q with q | q
  · exact h pins s σ H x xs v us Q I rx rs q
  · exact h' pins s σ H x xs v us Q I rx rs q
theorem pe_ix {r : R2} (hr : IxR X r) (ha : PE X a ta) (hb : PE X b tb) (hs : PlainIx b) : PE X (.Subscript a b pos) (tOp r ta tb) := by
  intro pins s σ H Q I h
  exact Subscript_ (binT ha hb I h fun v u s2 x y H2 I2 rx ry q => hr a b pins s2 σ H2 x y v u Q I2 rx ry q (hs _ _))

def rIxL (K : PySem.W.Frag) : R2 := fun x y H Q => ∃ p xs i v, x = .ref p ∧ y = .int i ∧ SqL K H p xs ∧ atI xs i = some v ∧ Q v H
def rIxT (K : PySem.W.Frag) : R2 := fun x y H Q => ∃ p xs i v, x = .ref p ∧ y = .int i ∧ SqT K H p xs ∧ atI xs i = some v ∧ Q v H
def rIxS : R2 := fun x y H Q => ∃ z i c, x = .str z ∧ y = .int i ∧ z.length ≤ sizeLine ∧ atI z.cps.toList i = some c ∧ Q (.str ⟨#[c]⟩) H
theorem ix_list : IxR X (rIxL X.K) := by
  intro value slice pins s σ H x y v u Q I rx ry h hs
  obtain ⟨p, xs, i, z, rfl, rfl, hq, he, q⟩ := h
  cases rx
  obtain ⟨t, rfl⟩ := ry
  obtain ⟨its, r, pl, hz⟩ := I.list hq
  obtain ⟨j, h1, h2, h3, h4, h5⟩ := atI_get he
  obtain ⟨w, ew, rw'⟩ := r.get h2
  have hl := r.length
  have hn := line63
  have fin : EP X pins σ Q w s := ⟨z, H, I, rw', q⟩
  by_cases h0 : 0 ≤ i
  · have hj : i.toNat = j := by
      rw [seqIndex_of h0 h5] at h1
      exact Option.some.inj h1
    exact item_listR pl.isList h0 (by omega) (by rw [hj]; simpa using ew) fin hs
  · have hj : (i + (its.toArray.size : Int)).toNat = j := by
      rw [seqIndex_neg (by omega) h4] at h1
      rw [List.size_toArray, ← hl]
      exact Option.some.inj h1
    exact subscriptTail_builtinR (x := w) pl.isList.typeIs slot_list_getitem.lookup
      (wpAny_getItem_list_neg (Q := fun r s' => r = w ∧ EP X pins σ Q r s') pl.isList (by omega) (by rw [List.size_toArray] <;> omega) (by omega) (by rw [hj]; simpa using ew) ⟨rfl, fin⟩) hs
theorem ix_tup : IxR X (rIxT X.K) := by
  intro value slice pins s σ H x y v u Q I rx ry h hs
  obtain ⟨p, xs, i, z, rfl, rfl, hq, he, q⟩ := h
  cases rx
  obtain ⟨t, rfl⟩ := ry
  obtain ⟨its, r, pl, hz⟩ := I.tuple hq
  obtain ⟨j, h1, h2, h3, h4, h5⟩ := atI_get he
  obtain ⟨w, ew, rw'⟩ := r.get h2
  have hl := r.length
  have hn := line63
  have fin : EP X pins σ Q w s := ⟨z, H, I, rw', q⟩
  exact subscriptTail_builtinR (x := w) pl.typeIs slot_tuple_getitem.lookup
    (getItem_tuple (j := j) (Q := fun r s' => r = w ∧ EP X pins σ Q r s') pl (by omega) (by omega) (by rw [List.size_toArray, ← hl]; exact h1) (by simpa using ew) ⟨rfl, fin⟩) hs
theorem ix_str : IxR X rIxS := by
  intro value slice pins s σ H x y v u Q I rx ry h hs
  obtain ⟨z, i, c, rfl, rfl, hz, he, q⟩ := h
  obtain ⟨t, rfl⟩ := rx
  obtain ⟨t', rfl⟩ := ry
  obtain ⟨j, h1, h2, h3, h4, h5⟩ := atI_get he
  have hl : z.cps.toList.length = z.length := by simp [Str.length]
  rw [hl] at h1 h4 h5
  have hn := line63
  exact tail_any (typeIs_str s z t) slot_str_getitem.lookup (getItem_str (c := c) (by
    have e1 : decide (i < -(2 ^ 63 : Int)) = false := decide_eq_false (by omega)
    have e2 : decide (i ≥ 2 ^ 63) = false := decide_eq_false (by omega)
    rw [e1, e2, Bool.or_false]) (by rw [h1]; simpa using h2) ⟨.str ⟨#[c]⟩, H, I.tok _, ⟨_, rfl⟩, q⟩) hs
def rIx (K : PySem.W.Frag) : R2 := fun x y H Q => rIxL K x y H Q ∨ rIxT K x y H Q ∨ rIxS x y H Q
theorem ix_seq : IxR X (rIx X.K) := ix_list.or (ix_tup.or ix_str)

theorem mapSeq_set (its : List Value) (n j : Nat) (u : Value) : Obj.mapSeq (·.setIfInBounds j u) { cls := .type "list", data := .seq its.toArray n } = { cls := .type "list", data := .seq (its.set j u).toArray n } := by
  simp [Obj.mapSeq]
theorem Inv.lst {pins : List (Addr × Obj)} {σ : St} {H : Hp} {s : Shared} {p : Addr} {xs : List V} (I : Inv X pins σ H s) (h : H p = some (.lst xs)) :
    ∃ (its : List Value) (n : Nat), Vals xs its ∧ s.heap.get? p = some { cls := .type "list", data := .seq its.toArray n } ∧ xs.length ≤ sizeLine := by
  obtain ⟨z, its, n, r, e⟩ := I.hok p _ h
  exact ⟨its, n, r, e, z⟩
theorem Inv.lstUpd {pins : List (Addr × Obj)} {σ : St} {H : Hp} {s : Shared} {p : Addr} {xs ys : List V} {its its' : List Value} {n n' : Nat} {f : Obj → Obj} (I : Inv X pins σ H s) (h : H p = some (.lst xs))
    (ho : s.heap.get? p = some { cls := .type "list", data := .seq its.toArray n }) (hf : f { cls := .type "list", data := .seq its.toArray n } = { cls := .type "list", data := .seq its'.toArray n' }) (r : Vals ys its') (hz : ys.length ≤ sizeLine) (t : Nat) :
    Inv X pins σ (upd H p (.lst ys)) { s with heap := s.heap.update p f, toks := t } := by
  have e : (s.heap.update p f).get? p = some { cls := .type "list", data := .seq its'.toArray n' } := by
    rw [Heap.get?_update_self f ho (by rw [hf] <;> rfl), hf]
  refine I.write (x := p) (e := p) (by rw [h]; trivial) (.inl rfl) (fun b u hb q => (Heap.get?_update_other _ _ (Ne.symm hb)).trans q) ⟨_, e⟩ ?_
  exact ⟨hz, its', n', r, e⟩
def rSetL : V → V → V → Hp → (Hp → Prop) → Prop := fun o i v H Q => ∃ p xs k j, o = .ref p ∧ i = .int k ∧ H p = some (.lst xs) ∧ ixN xs.length k = some j ∧ Q (upd H p (.lst (xs.set j v)))
theorem set_list : PSet X rSetL := by
  intro pins s σ H o i v ov iv u Q I ro ri rv h
  obtain ⟨p, xs, k, j, rfl, rfl, hp, hj, q⟩ := h
  cases ro
  obtain ⟨t, rfl⟩ := ri
  obtain ⟨its, n, r, ho, hz⟩ := I.lst hp
  obtain ⟨h1, h2, h3, h4⟩ := ixN_seq hj
  have hl := r.length
  have hn := line63
  have I' : Inv X pins σ (upd H p (.lst (xs.set j v))) { s with heap := s.heap.update p (Obj.mapSeq (·.setIfInBounds j u)) } :=
    I.lstUpd hp ho (mapSeq_set its n j u) (r.set rv j) (by rw [List.length_set]; exact hz) s.toks
  by_cases h0 : 0 ≤ k
  · have hk : k.toNat = j := by
      rw [seqIndex_of h0 h4] at h1
      exact Option.some.inj h1
    exact PySem.W.ki_setAt ho h0 (by omega) (by rw [List.size_toArray, ← hl]; exact h4) (by rw [hk]; exact ⟨_, I', q⟩)
  · have hk : (k + (its.toArray.size : Int)).toNat = j := by
      rw [seqIndex_neg (by omega) h3] at h1
      rw [List.size_toArray, ← hl]
      exact Option.some.inj h1
    exact PySem.W.ki_setBack ho (by omega) (by rw [List.size_toArray, ← hl]; exact h3) (by omega) (by rw [hk]; exact ⟨_, I', q⟩)

theorem slice_bounds (lo hi : Option Int) (n : Nat) : (sliceBounds lo hi none n).1 = ((HT.sIx n 0 lo : Nat) : Int) ∧ (sliceBounds lo hi none n).2.1 = ((HT.sIx n n hi : Nat) : Int) ∧ (sliceBounds lo hi none n).2.2 = 1 := by
  refine ⟨?_, ?_, rfl⟩
  · cases lo with
    | none => simp [sliceBounds, HT.sIx]
    | some i =>
      simp only [sliceBounds, HT.sIx, Option.getD_none, show (1 : Int) > 0 by decide, if_true]
      by_cases h : i < 0
      · simp only [h, if_true] <;> omega
      · simp only [h, if_false] <;> omega
  · cases hi with
    | none => simp [sliceBounds, HT.sIx]
    | some i =>
      simp only [sliceBounds, HT.sIx, Option.getD_none, show (1 : Int) > 0 by decide, if_true]
      by_cases h : i < 0
      · simp only [h, if_true] <;> omega
      · simp only [h, if_false] <;> omega
theorem slicePick_cut (its : List Value) (lo hi : Option Int) : slicePick its.toArray lo hi none = ((its.drop (HT.sIx its.length 0 lo)).take (HT.sIx its.length its.length hi - HT.sIx its.length 0 lo)).toArray := by
  obtain ⟨h1, h2, h3⟩ := slice_bounds lo hi its.toArray.size
  unfold slicePick
  rw [h1, h2, h3]
  simp only [sliceRange_one, pick_run, List.size_toArray] <;> rfl
def rSlL (K : PySem.W.Frag) : V → Option Int → Option Int → Hp → VK → Prop := fun x lo hi H Q => ∃ a xs, x = .ref a ∧ SqL K H a xs ∧ ∀ p, H p = none → Q (.ref p) (upd H p (.lst (cutV xs lo hi)))
theorem sl_list : SlR X (rSlL X.K) := by
  intro pins s σ H x v vl vu lo hi sl Q I rx hs pl pu h
  obtain ⟨a, xs, rfl, hx, q⟩ := h
  cases rx
  obtain ⟨its, r, ht, hz⟩ := I.list hx
  have hlen := r.length
  refine ⟨"list", _, slot_list_getitem.lookup, ht.isList.typeIs, ?_⟩
  refine wpAny_getItem_list_slice ht.isList hs pl pu .none (by simp) ?_ (by rw [List.size_toArray] <;> omega)
  rw [slicePick_cut, ← hlen]
  refine ⟨.ref s.heap.objs.size, _, I.laid (t' := s.toks) (o := .lst (cutV xs lo hi)) (fun b ob q => Heap.get?_push_of_some _ q) (Nat.le_refl _) ?_, rfl, q _ (I.hok.fresh (Nat.le_refl _))⟩
  exact ⟨Nat.le_trans (cutV_length xs lo hi) hz, _, 0, (r.drop (HT.sIx xs.length 0 lo)).take (HT.sIx xs.length xs.length hi - HT.sIx xs.length 0 lo), Heap.get?_push_size _ rfl⟩

def flatV : V → Bool
  | .non => true
  | .bl _ => true
  | .int _ => true
  | .str _ => true
  | _ => false
def eqV : V → V → Bool
  | .non, .non => true
  | .bl a, .bl b => a == b
  | .bl a, .int b => (if a then 1 else 0) == b
  | .int a, .bl b => a == (if b then 1 else 0)
  | .int a, .int b => a == b
  | .str a, .str b => a == b
  | _, _ => false
theorem eqAt_V {A : Around} {s : Shared} {y x : V} {u v : Value} (ry : RelV y u) (rx : RelV x v) (fy : flatV y = true) (fx : flatV x = true) : SeqAt.EqAt A s u v (eqV y x) := by
  cases y with
  | non =>
    cases ry
    cases x with
    | non => cases rx; exact SeqAt.EqAt.same _
    | bl b => cases rx; exact SeqAt.EqAt.none_bool b
    | int b => obtain ⟨t, rfl⟩ := rx; exact SeqAt.EqAt.none_int b t
    | str b => obtain ⟨t, rfl⟩ := rx; exact SeqAt.EqAt.none_str b t
    | _ => exact absurd (show false = true from fx) Bool.false_ne_true
  | bl a =>
    cases ry
    cases x with
    | non => cases rx; exact SeqAt.EqAt.bool_none a
    | bl b => cases rx; exact SeqAt.EqAt.bool_bool a b
    | int b => obtain ⟨t, rfl⟩ := rx; exact SeqAt.EqAt.bool_int a b t
    | str b => obtain ⟨t, rfl⟩ := rx; exact SeqAt.EqAt.bool_str a b t
    | _ => exact absurd (show false = true from fx) Bool.false_ne_true
  | int a =>
    obtain ⟨t', rfl⟩ := ry
    cases x with
    | non => cases rx; exact SeqAt.EqAt.int_none a t'
    | bl b => cases rx; exact SeqAt.EqAt.int_bool a t' b
    | int b => obtain ⟨t, rfl⟩ := rx; exact SeqAt.EqAt.int_int a t' b t
    | str b => obtain ⟨t, rfl⟩ := rx; exact SeqAt.EqAt.int_str a t' b t
    | _ => exact absurd (show false = true from fx) Bool.false_ne_true
  | str a =>
    obtain ⟨t', rfl⟩ := ry
    cases x with
    | non => cases rx; exact SeqAt.EqAt.str_none a t'
    | bl b => cases rx; exact SeqAt.EqAt.str_bool a t' b
    | int b => obtain ⟨t, rfl⟩ := rx; exact SeqAt.EqAt.str_int a t' b t
    | str b => obtain ⟨t, rfl⟩ := rx; exact SeqAt.EqAt.str_str a t' b t
    | _ => exact absurd (show false = true from fx) Bool.false_ne_true
  | _ => exact absurd (show false = true from fy) Bool.false_ne_true
def eqU (x : V) (u : Value) : Bool := match u with
  | .none => eqV .non x
  | .bool b => eqV (.bl b) x
  | .int i _ => eqV (.int i) x
  | .str z _ => eqV (.str z) x
  | _ => false
theorem eqU_of {x y : V} {u : Value} (r : RelV y u) (f : flatV y = true) : eqU x u = eqV y x := by
  cases y with
  | non => cases r; rfl
  | bl b => cases r; rfl
  | int i => obtain ⟨t, rfl⟩ := r; rfl
  | str z => obtain ⟨t, rfl⟩ := r; rfl
  | _ => exact absurd (show false = true from f) Bool.false_ne_true
theorem any_eqU {x : V} : ∀ {xs : List V} {us : List Value}, Vals xs us → xs.all flatV = true → us.any (eqU x) = xs.any fun y => eqV y x
  | _, _, .nil, _ => rfl
  | y :: xs, u :: us, .cons r t, f => by
    rw [List.all_cons, Bool.and_eq_true] at f
    rw [List.any_cons, List.any_cons, eqU_of r f.1, any_eqU t f.2]
theorem mem_eqAt {A : Around} {s : Shared} {x : V} {v : Value} (rx : RelV x v) (fx : flatV x = true) : ∀ {xs : List V} {us : List Value}, Vals xs us → xs.all flatV = true → ∀ u ∈ us, SeqAt.EqAt A s u v (eqU x u)
  | _, _, .nil, _ => fun u hu => by cases hu
  | y :: xs, u :: us, .cons r t, f => fun u' hu => by
    rw [List.all_cons, Bool.and_eq_true] at f
    rcases List.mem_cons.mp hu with rfl | hu
    · rw [eqU_of r f.1]; exact eqAt_V r rx f.1 fx
    · exact mem_eqAt rx fx t f.2 u' hu
def inV (x : V) (xs : List V) : Bool := xs.any fun y => eqV y x
def rIn (K : PySem.W.Frag) (neg : Bool) : R2 := fun x y H Q => ∃ p xs, y = .ref p ∧ (SqL K H p xs ∨ SqT K H p xs) ∧ flatV x = true ∧ xs.all flatV = true ∧ Q (.bl (if neg then !inV x xs else inV x xs)) H
theorem op_in_seq : OpR X (compareOp .In) (rIn X.K false) := by
  intro pins s σ H x y v u Q I rx ry h
  obtain ⟨p, xs, rfl, hq, fx, fs, q⟩ := h
  cases ry
  rcases hq with hq | hq
  · obtain ⟨its, r, pl, hz⟩ := I.list hq
    refine SeqAt.in_listAt (eqU x) pl.isList (fun w hw => mem_eqAt rx fx r fs w (by simpa using hw)) ⟨.bl _, H, I, rfl, ?_⟩
    rw [show its.toArray.any (eqU x) = its.any (eqU x) by simp, any_eqU r fs]
    exact q
  · obtain ⟨its, r, pl, hz⟩ := I.tuple hq
    refine SeqAt.in_tupleAt (eqU x) pl (fun w hw => mem_eqAt rx fx r fs w (by simpa using hw)) ⟨.bl _, H, I, rfl, ?_⟩
    rw [show its.toArray.any (eqU x) = its.any (eqU x) by simp, any_eqU r fs]
    exact q
theorem op_notIn_seq : OpR X (compareOp .NotIn) (rIn X.K true) := by
  intro pins s σ H x y v u Q I rx ry h
  obtain ⟨p, xs, rfl, hq, fx, fs, q⟩ := h
  cases ry
  rcases hq with hq | hq
  · obtain ⟨its, r, pl, hz⟩ := I.list hq
    refine SeqAt.notIn_listAt (eqU x) pl.isList (fun w hw => mem_eqAt rx fx r fs w (by simpa using hw)) ⟨.bl _, H, I, rfl, ?_⟩
    rw [show its.toArray.any (eqU x) = its.any (eqU x) by simp, any_eqU r fs]
    exact q
  · obtain ⟨its, r, pl, hz⟩ := I.tuple hq
    refine SeqAt.notIn_tupleAt (eqU x) pl (fun w hw => mem_eqAt rx fx r fs w (by simpa using hw)) ⟨.bl _, H, I, rfl, ?_⟩
    rw [show its.toArray.any (eqU x) = its.any (eqU x) by simp, any_eqU r fs]
    exact q
theorem op_notIn_str : OpR X (compareOp .NotIn) (fun x y H Q => ∃ i j, x = .str i ∧ y = .str j ∧ Q (.bl (!(!(Builtin.Str.occurrences j i 0 j.length 1).isEmpty))) H) := by
  intro pins s σ H x y v u Q I rx ry h
  obtain ⟨i, j, rfl, rfl, q⟩ := h
  obtain ⟨t, rfl⟩ := rx
  obtain ⟨t', rfl⟩ := ry
  exact notIn_str ⟨.bl _, H, I, rfl, q⟩

theorem call_len_seq : CallR X (.builtin "len") (fun xs H Q => ∃ p ys, xs = [.ref p] ∧ (SqL X.K H p ys ∨ SqT X.K H p ys) ∧ Q (.int ys.length) H) := by
  intro pins s σ H xs us Q I r h
  obtain ⟨p, ys, rfl, hq, q⟩ := h
  obtain ⟨u, rfl, rx⟩ := vals1 r
  cases rx
  have hn := line63
  rcases hq with hq | hq
  · obtain ⟨its, r', pl, hz⟩ := I.list hq
    have hlen := r'.length
    exact Calls.call_len_list pl.isList (by simp only [List.size_toArray] <;> omega) ⟨.int ys.length, H, I.tok _, ⟨s.toks + 1, by rw [List.size_toArray, hlen]⟩, q⟩
  · obtain ⟨its, r', pl, hz⟩ := I.tuple hq
    have hlen := r'.length
    exact len_tuple pl (by simp only [List.size_toArray] <;> omega) ⟨.int ys.length, H, I.tok _, ⟨s.toks + 1, by rw [List.size_toArray, hlen]⟩, q⟩
theorem call_len_str : CallR X (.builtin "len") (fun xs H Q => ∃ z, xs = [.str z] ∧ z.length ≤ sizeLine ∧ Q (.int z.length) H) := by
  intro pins s σ H xs us Q I r h
  obtain ⟨z, rfl, hz, q⟩ := h
  obtain ⟨u, rfl, t, rfl⟩ := vals1 r
  have hn := line63
  exact len_str (by omega) ⟨.int z.length, H, I.tok _, ⟨_, rfl⟩, q⟩
theorem CallR.or {f : Value} {r r' : List V → Hp → VK → Prop} (h : CallR X f r) (h' : CallR X f r') : CallR X f (fun xs H Q => r xs H Q ∨ r' xs H Q) := by
  intro pins s σ H xs us Q I rs q
  rcases q with q | q
  · exact h pins s σ H xs us Q I rs q
  · exact h' pins s σ H xs us Q I rs q
theorem call_list_of : CallR X (.type "list") (fun xs H Q => ∃ p ys, xs = [.ref p] ∧ (SqL X.K H p ys ∨ SqT X.K H p ys) ∧ ∀ l, H l = none → Q (.ref l) (upd H l (.lst ys))) := by
  intro pins s σ H xs us Q I r h
  obtain ⟨p, ys, rfl, hq, q⟩ := h
  obtain ⟨u, rfl, rx⟩ := vals1 r
  cases rx
  have fin : ∀ (its : List Value), Vals ys its → ys.length ≤ sizeLine → ∀ (h' : Heap) (c' : Nat), (∀ b o', s.heap.get? b = some o' → h'.get? b = some o') →
      h'.get? s.heap.objs.size = some { cls := .type "list", dict := none, data := .seq its.toArray c', slots := #[] } → EP X pins σ Q (.ref s.heap.objs.size) { s with heap := h' } := fun its r' hz h' c' kp e =>
    ⟨.ref s.heap.objs.size, _, I.laid (t' := s.toks) kp (Nat.le_refl _) (show ObjOk X.prog X.w _ h' _ (.lst ys) from ⟨hz, its, c', r', e⟩), rfl, q _ (I.hok.fresh (Nat.le_refl _))⟩
  rcases hq with hq | hq
  · obtain ⟨its, r', pl, hz⟩ := I.list hq
    have hlen := r'.length
    obtain ⟨o, ho, hc, n, hd⟩ := pl.isList
    exact call_list_seq p (.inl rfl) ho hc hd (fun h' c' kp e => fin its r' hz h' c' kp e) (by simp only [List.size_toArray] <;> omega)
  · obtain ⟨its, r', pl, hz⟩ := I.tuple hq
    have hlen := r'.length
    obtain ⟨o, ho, hc, n, hd⟩ := pl
    exact call_list_seq p (.inr rfl) ho hc hd (fun h' c' kp e => fin its r' hz h' c' kp e) (by simp only [List.size_toArray] <;> omega)
theorem call_tuple_of : CallR X (.type "tuple") (fun xs H Q => ∃ p ys, xs = [.ref p] ∧ ((SqL X.K H p ys ∧ ∀ l, H l = none → Q (.ref l) (upd H l (.tup ys))) ∨ (SqT X.K H p ys ∧ Q (.ref p) H))) := by
  intro pins s σ H xs us Q I r h
  obtain ⟨p, ys, rfl, h⟩ := h
  obtain ⟨u, rfl, rx⟩ := vals1 r
  cases rx
  rcases h with ⟨hq, q⟩ | ⟨hq, q⟩
  · obtain ⟨its, r', pl, hz⟩ := I.list hq
    have hlen := r'.length
    refine call_tuple_list pl.isList (fun h' kp => ?_) (by simp only [List.size_toArray] <;> omega)
    have I1 : Inv X pins σ H { s with heap := h' } := I.kept (t' := s.toks) kp
    have I2 : Inv X pins σ (upd H h'.objs.size (.tup ys)) { s with heap := h'.push { cls := .type "tuple", data := .seq its.toArray } } :=
      I1.laid (t' := s.toks) (fun b o e => Heap.get?_push_of_some _ e) (Nat.le_refl _) (show ObjOk X.prog X.w _ _ _ (.tup ys) from ⟨hz, its, r', IsTup.new _ _⟩)
    exact ⟨.ref h'.objs.size, _, I2, rfl, q _ (I1.hok.fresh (Nat.le_refl _))⟩
  · obtain ⟨its, r', pl, hz⟩ := I.tuple hq
    exact call_tuple_same pl ⟨.ref p, H, I, rfl, q⟩

def tyV (K : PySem.W.Frag) (T : String) (x : V) (H : Hp) : Prop := match x with
  | .str _ => T = "str"
  | .int _ => T = "int"
  | .ref p => (T = "list" ∧ ∃ xs, SqL K H p xs) ∨ (T = "tuple" ∧ ∃ o, K.lookup p = some o ∧ o.cls = .type "tuple" ∧ o.dict = none) ∨
      (T = "dict" ∧ ((∃ kvs, H p = some (.dK kvs)) ∨ ∃ kvs, H p = some (.dT kvs))) ∨ (T = "set" ∧ ∃ S n, H p = some (.set S n))
  | _ => False
theorem tyV_is {pins : List (Addr × Obj)} {σ : St} {H : Hp} {s : Shared} {T : String} {x : V} {v : Value} (I : Inv X pins σ H s) (r : RelV x v) (ty : tyV X.K T x H) :
    s.TypeIs v T ∧ ∀ a, v = .ref a → ∃ ob, s.heap.get? a = some ob ∧ ob.dict = none := by
  cases x with
  | str z =>
    obtain ⟨t, rfl⟩ := r
    cases (show T = "str" from ty)
    exact ⟨typeIs_str s z t, fun _ e => nomatch e⟩
  | int i =>
    obtain ⟨t, rfl⟩ := r
    cases (show T = "int" from ty)
    exact ⟨typeIs_int s i t, fun _ e => nomatch e⟩
  | ref p =>
    cases r
    rcases ty with ⟨rfl, xs, hq⟩ | ⟨rfl, o, hk, hc, hd⟩ | ⟨rfl, hk⟩ | ⟨rfl, S, n, hk⟩
    · obtain ⟨its, _, pl, _⟩ := I.list hq
      refine ⟨pl.isList.typeIs, fun a e => ?_⟩
      cases e
      obtain ⟨o, n, e, c, hd, _⟩ := pl
      exact ⟨o, e, hd⟩
    · refine ⟨⟨o, I.kIn p o hk, hc⟩, fun a e => ?_⟩
      cases e
      exact ⟨o, I.kIn _ o hk, hd⟩
    · have z : ∃ o, s.heap.get? p = some o ∧ o.ExactDict := by
        rcases hk with ⟨kvs, hk⟩ | ⟨kvs, hk⟩
        · obtain ⟨_, _, _, _, o, _, _, e, ex, _⟩ := I.hok p _ hk
          exact ⟨o, e, ex⟩
        · obtain ⟨_, _, _, _, o, _, _, e, ex, _⟩ := I.hok p _ hk
          exact ⟨o, e, ex⟩
      obtain ⟨o, e, ex⟩ := z
      refine ⟨⟨o, e, ex.1⟩, fun a e2 => ?_⟩
      cases e2
      exact ⟨o, e, ex.2.1⟩
    · obtain ⟨o, _, _, _, e, ex, _⟩ := I.hok p _ hk
      refine ⟨⟨o, e, ex.1⟩, fun a e2 => ?_⟩
      cases e2
      exact ⟨o, e, ex.2.1⟩
  | _ => exact False.elim ty
def tBM0 (K : PySem.W.Frag) (T : String) (r : V → List V → Hp → VK → Prop) (to : TE) : TE := fun σ H Q => to σ H fun x H1 => tyV K T x H1 ∧ r x [] H1 Q
def tBM (K : PySem.W.Frag) (T : String) (r : V → List V → Hp → VK → Prop) (to : TE) (t : TA) : TE := fun σ H Q => to σ H fun x H1 => tyV K T x H1 ∧ t σ H1 fun xs H2 => r x xs H2 Q
variable {o e : Expr} {es : List Expr} {to : TE} {t : TA} {name : Str} {apos cpos : Pos} {T id : String} {r : V → List V → Hp → VK → Prop}
theorem pe_bm0 (pa : PlainAttrs T) (slot : Slot T name id) (hty : typeOf (.builtin id) = pure (.type "method_descriptor")) (hm : MtR X id r) (ho : PE X o to)
    (hbase : attributeBase o name X.env (eval o X.env) = eval o X.env := by rfl) (hline : (apos.endLine == cpos.line) = true := by rfl) : PE X (.Call (.Attribute o name apos) [] [] cpos) (tBM0 X.K T r to) := by
  intro pins s σ H Q I h
  refine wpAny_Call_method0_late hbase hline (thn (ho pins s σ H _ I h) fun v s1 ⟨x, H1, I1, r1, ty, q1⟩ => ?_)
  obtain ⟨h1, h2⟩ := tyV_is I1 r1 ty
  exact ⟨T, id, pa, slot, hty, h1, h2, Calls.callWith_builtin rfl (PySem.evalArgs_none (hm pins s1 σ H1 x [] v [] Q I1 r1 .nil q1))⟩
theorem pe_bm (pa : PlainAttrs T) (slot : Slot T name id) (hty : typeOf (.builtin id) = pure (.type "method_descriptor")) (hm : MtR X id r) (ho : PE X o to) (ha : PA X (e :: es) t)
    (hbase : attributeBase o name X.env (eval o X.env) = eval o X.env := by rfl)
    (hfew : ((backTo cpos (starEach (e :: es) X.env)).all (fun x => !x.1) && (backToKw cpos (keywordEach [] X.env)).all (fun x => x.1.isSome)
      && decide ((e :: es).length + ([] : List Keyword).length + (if ([] : List Keyword).isEmpty then 0 else 1) < 30)) = true := by rfl)
    (hline : (apos.endLine == cpos.line) = true := by rfl) (hs : starEach (e :: es) X.env = (false, eval e X.env) :: starEach es X.env := by rfl) (hplain : (backTo cpos (starEach es X.env)).any (·.1) = false := by rfl) :
    PE X (.Call (.Attribute o name apos) (e :: es) [] cpos) (tBM X.K T r to t) := by
  intro pins s σ H Q I h
  refine wpAny_Call_method_late hbase hfew hline rfl (thn (ho pins s σ H _ I h) fun v s1 ⟨x, H1, I1, r1, ty, q1⟩ => ?_)
  obtain ⟨h1, h2⟩ := tyV_is I1 r1 ty
  refine ⟨T, id, pa, slot, hty, h1, h2, ?_⟩
  have hA := ha cpos pins s1 σ H1 _ I1 q1
  rw [hs] at hA ⊢
  refine Calls.callWith_builtin (by show (false || (backTo cpos (starEach es X.env)).any (·.1)) = false; rw [hplain] <;> rfl) (Calls.evalArgs_plain ?_)
  exact thn hA fun us s2 ⟨vs, H2, I2, r2, q2⟩ => hm pins s2 σ H2 x vs v us Q I2 r1 r2 q2
end
end L2

namespace L2
open PySem PySem.Spec PyProof.Rows

def MtM (X : Cx) (id : String) (r : V → List V → Hp → VK → Prop) : Prop :=
  ∀ (pins : List (Addr × Obj)) (s : Shared) (σ : St) (H : Hp) (x : V) (xs : List V) (v : Value) (us : List Value) (Q : VK), Inv X pins σ H s → RelV x v → Vals xs us → r x xs H Q →
    wpAny (model X.prog X.w) X.A (call (.builtin id) (v :: us)) (EP X pins σ Q) X.xe s

theorem Vals.one : ∀ {x : V} {us : List Value}, Vals [x] us → ∃ u, us = [u] ∧ RelV x u
  | _, _, .cons r .nil => ⟨_, rfl, r⟩
theorem Vals.two : ∀ {x y : V} {us : List Value}, Vals [x, y] us → ∃ u v, us = [u, v] ∧ RelV x u ∧ RelV y v
  | _, _, _, .cons r (.cons q .nil) => ⟨_, _, rfl, r, q⟩
theorem Vals.zero : ∀ {us : List Value}, Vals [] us → us = []
  | _, .nil => rfl
theorem Vals.dropLast {xs : List V} {us : List Value} (h : Vals xs us) : Vals xs.dropLast us.dropLast := by
  induction h with
  | nil => exact .nil
  | cons r t ih =>
    cases t with
    | nil => exact .nil
    | cons q t' => exact .cons r ih
theorem Vals.eraseIdx : ∀ {xs : List V} {us : List Value} (i : Nat), Vals xs us → Vals (xs.eraseIdx i) (us.eraseIdx i)
  | _, _, _, .nil => .nil
  | _, _, 0, .cons _ t => t
  | _, _, i + 1, .cons r t => .cons r (Vals.eraseIdx i t)
theorem Vals.reverse {xs : List V} {us : List Value} (h : Vals xs us) : Vals xs.reverse us.reverse := by
  induction h with
  | nil => exact .nil
  | cons r t ih => rw [List.reverse_cons, List.reverse_cons]; exact Vals.append ih (.cons r .nil)
theorem Vals.rep {xs : List V} {us : List Value} (h : Vals xs us) : ∀ k : Nat, Vals (List.replicate k xs).flatten (List.replicate k us).flatten
  | 0 => .nil
  | k + 1 => by
    rw [List.replicate_succ, List.replicate_succ, List.flatten_cons, List.flatten_cons]
    exact Vals.append h (Vals.rep h k)
theorem erase_last {α : Type} (l : List α) : l.eraseIdx (l.length - 1) = l.dropLast := by
  induction l with
  | nil => rfl
  | cons a r ih =>
    cases r with
    | nil => rfl
    | cons b r =>
      have e : (a :: b :: r).length - 1 = ((b :: r).length - 1) + 1 := by
        have h1 : (a :: b :: r).length = r.length + 2 := rfl
        have h2 : (b :: r).length = r.length + 1 := rfl
        omega
      rw [e, List.eraseIdx_cons_succ, ih]
      all_goals rfl
theorem len_erase {α : Type} : ∀ (l : List α) (i : Nat), (l.eraseIdx i).length ≤ l.length
  | [], _ => Nat.le_refl _
  | _ :: _, 0 => Nat.le_succ _
  | _ :: r, i + 1 => Nat.succ_le_succ (len_erase r i)
theorem foldl_rep (its : List Value) : ∀ (k : Nat) (acc : List Value),
    List.foldl (fun x1 x2 => x1 ++ x2) acc.toArray (List.replicate k its.toArray) = (acc ++ (List.replicate k its).flatten).toArray
  | 0, acc => by simp
  | k + 1, acc => by
    have e : acc.toArray ++ its.toArray = (acc ++ its).toArray := by simp
    have e2 : (acc ++ its) ++ (List.replicate k its).flatten = acc ++ (List.replicate (k + 1) its).flatten := by
      rw [List.replicate_succ, List.flatten_cons, List.append_assoc]
    rw [← e2, ← foldl_rep its k (acc ++ its), ← e, List.replicate_succ, List.foldl_cons]

section
variable {X : Cx} {pins : List (Addr × Obj)} {σ : St} {H : Hp} {s : Shared} {l b : Addr} {xs ys zs : List V}

theorem Inv.lset {its its' : List Value} {n : Nat} {f : Array Value → Array Value} {t' : Nat} (I : Inv X pins σ H s) (hH : H l = some (.lst xs))
    (e : s.heap.get? l = some { cls := .type "list", data := .seq its.toArray n }) (hf : f its.toArray = its'.toArray) (hv : Vals ys its') (hz : ys.length ≤ sizeLine) :
    Inv X pins σ (upd H l (.lst ys)) { s with heap := s.heap.update l (Obj.mapSeq f), toks := t' } := by
  have q := PySem.IsL.update e f
  rw [hf] at q
  refine I.write (x := l) (e := l) (by rw [hH]; exact trivial) (.inl rfl) (fun b' u hb hu => (Heap.get?_update_other s.heap (Obj.mapSeq f) (Ne.symm hb)).trans hu) ⟨_, q⟩ ?_
  exact ⟨hz, its', _, hv, q⟩
theorem Inv.lnew {its : List Value} {t' : Nat} (I : Inv X pins σ H s) (hv : Vals ys its) (hz : ys.length ≤ sizeLine) :
    Inv X pins σ (upd H s.heap.objs.size (.lst ys)) { s with heap := s.heap.push { cls := .type "list", data := .seq its.toArray }, toks := t' } :=
  I.laid (fun _ _ q => Heap.get?_push_of_some _ q) (Nat.le_refl _) ⟨hz, its, 0, hv, Heap.get?_push_size _ rfl⟩
theorem Inv.fresh (I : Inv X pins σ H s) : H s.heap.objs.size = none := I.hok.fresh (Nat.le_refl _)
theorem Inv.lstM (I : Inv X pins σ H s) (hH : H l = some (.lst xs)) : xs.length ≤ sizeLine ∧ ∃ (its : List Value) (n : Nat), Vals xs its ∧ xs.length = its.length ∧ s.heap.get? l = some { cls := .type "list", data := .seq its.toArray n } := by
  obtain ⟨z, its, n, r, e⟩ := I.hok l _ hH
  exact ⟨z, its, n, r, r.length, e⟩

theorem notLongL {n : Nat} (h : n ≤ sizeLine) : Builtin.List.listTooLong n = false := by
  unfold Builtin.List.listTooLong
  exact decide_eq_false (by omega)
end

section
variable {X : Cx}

def rAppend : V → List V → Hp → VK → Prop := fun x vs H Q => ∃ l xs y, x = .ref l ∧ vs = [y] ∧ H l = some (.lst xs) ∧ xs.length < sizeLine ∧ Q .non (upd H l (.lst (xs ++ [y])))
theorem mt_append : MtM X "list.append" rAppend := by
  intro pins s σ H x vs v us Q I rx rv h
  obtain ⟨l, xs, y, rfl, rfl, hH, hz, q⟩ := h
  cases rx
  obtain ⟨u, rfl, ru⟩ := rv.one
  obtain ⟨z, its, n, r, hl, e⟩ := I.lstM hH
  refine call_meets F.slot_list_append ⟨_, e, rfl⟩ F.entry_list_append (F.args_list_append_2 _ _) (PySem.list_append l its.toArray n u (by rw [List.size_toArray]; omega)) ⟨e, ?_⟩
  refine ⟨.non, _, I.lset (its' := its ++ [u]) hH e (by simp) (r.append (.cons ru .nil)) ?_, rfl, q⟩
  rw [List.length_append, List.length_singleton]
  omega

def rExtend : V → List V → Hp → VK → Prop := fun x vs H Q => ∃ l b xs zs, x = .ref l ∧ vs = [.ref b] ∧ H l = some (.lst xs) ∧ H b = some (.lst zs) ∧ xs.length + zs.length ≤ sizeLine ∧ Q .non (upd H l (.lst (xs ++ zs)))
theorem mt_extend : MtM X "list.extend" rExtend := by
  intro pins s σ H x vs v us Q I rx rv h
  obtain ⟨l, b, xs, zs, rfl, rfl, hH, hB, hz, q⟩ := h
  cases rx
  obtain ⟨u, rfl, ru⟩ := rv.one
  cases ru
  obtain ⟨z, its, n, r, hl, e⟩ := I.lstM hH
  obtain ⟨z2, its2, n2, r2, hl2, e2⟩ := I.lstM hB
  have hsz : its.toArray.size + its2.toArray.size ≤ sizeLine := by rw [List.size_toArray, List.size_toArray]; omega
  have hlong : ¬ (!its.toArray.isEmpty && Builtin.List.listTooLong (its.toArray.size + its2.toArray.size)) = true := by
    rw [notLongL hsz, Bool.and_false]
    exact Bool.false_ne_true
  refine call_meets F.slot_list_extend ⟨_, e, rfl⟩ F.entry_list_extend (F.args_list_extend_2 _ _)
    (AutoSeq1.list_extend_list_list_0 l its.toArray n b its2.toArray n2 hlong (by rw [List.size_toArray]; omega) (by omega)) ⟨e, e2, ?_⟩
  refine ⟨.non, _, I.lset (its' := its ++ its2) hH e (by simp) (r.append r2) ?_, rfl, q⟩
  rw [List.length_append]
  omega

def rPop : V → List V → Hp → VK → Prop := fun x vs H Q => ∃ l xs y, x = .ref l ∧ vs = [] ∧ H l = some (.lst xs) ∧ xs[xs.length - 1]? = some y ∧ Q y (upd H l (.lst xs.dropLast))
theorem mt_pop : MtM X "list.pop" rPop := by
  intro pins s σ H x vs v us Q I rx rv h
  obtain ⟨l, xs, y, rfl, rfl, hH, hy, q⟩ := h
  cases rx
  have hus := rv.zero
  subst hus
  obtain ⟨z, its, n, r, hl, e⟩ := I.lstM hH
  obtain ⟨u, hu, ru⟩ := r.get hy
  have hy' : its.toArray[its.toArray.size - 1]? = some u := by
    show its.toArray[its.length - 1]? = some u
    rw [← Array.getElem?_toList, ← hl]
    exact hu
  refine call_meets F.slot_list_pop ⟨_, e, rfl⟩ F.entry_list_pop (F.args_list_pop_1 _) (MeetsSeq.list_pop_last l its.toArray n u hy' (by rw [List.size_toArray]; omega)) ⟨e, ?_⟩
  refine ⟨y, _, I.lset (its' := its.dropLast) hH e ?_ r.dropLast ?_, ru, q⟩
  · show its.toArray.eraseIdxIfInBounds (its.toArray.size - 1) = its.dropLast.toArray
    rw [List.size_toArray, List.eraseIdxIfInBounds_toArray, erase_last]
  · rw [List.length_dropLast]
    omega

def rPopAt : V → List V → Hp → VK → Prop := fun x vs H Q => ∃ l xs i k y, x = .ref l ∧ vs = [.int i] ∧ H l = some (.lst xs) ∧ -(2 ^ 63) ≤ i ∧ i < 2 ^ 63 ∧ seqIndex? i xs.length = some k ∧ xs[k]? = some y ∧ Q y (upd H l (.lst (xs.eraseIdx k)))
theorem mt_popAt : MtM X "list.pop" rPopAt := by
  intro pins s σ H x vs v us Q I rx rv h
  obtain ⟨l, xs, i, k, y, rfl, rfl, hH, h1, h2, hk, hy, q⟩ := h
  cases rx
  obtain ⟨u, rfl, ru⟩ := rv.one
  obtain ⟨t, rfl⟩ := ru
  obtain ⟨z, its, n, r, hl, e⟩ := I.lstM hH
  obtain ⟨w, hw, rw'⟩ := r.get hy
  refine call_meets F.slot_list_pop ⟨_, e, rfl⟩ F.entry_list_pop (F.args_list_pop_2 _ _)
    (MeetsSeq.list_pop_at l its.toArray n i t k w (fitsIndex_both h1 h2) (by rw [List.size_toArray, ← hl]; exact hk) (by rw [← Array.getElem?_toList]; exact hw) (by rw [List.size_toArray]; omega)) ⟨e, ?_⟩
  refine ⟨y, _, I.lset (its' := its.eraseIdx k) hH e ?_ (r.eraseIdx k) ?_, rw', q⟩
  · show its.toArray.eraseIdxIfInBounds k = (its.eraseIdx k).toArray
    rw [List.eraseIdxIfInBounds_toArray]
  · have := len_erase xs k
    omega

def rReverse : V → List V → Hp → VK → Prop := fun x vs H Q => ∃ l xs, x = .ref l ∧ vs = [] ∧ H l = some (.lst xs) ∧ Q .non (upd H l (.lst xs.reverse))
theorem mt_reverse : MtM X "list.reverse" rReverse := by
  intro pins s σ H x vs v us Q I rx rv h
  obtain ⟨l, xs, rfl, rfl, hH, q⟩ := h
  cases rx
  have hus := rv.zero
  subst hus
  obtain ⟨z, its, n, r, hl, e⟩ := I.lstM hH
  refine call_meets F.slot_list_reverse ⟨_, e, rfl⟩ F.entry_list_reverse (F.args_list_reverse_1 _) (AutoSeq1.list_reverse_list_0 l its.toArray n (by rw [List.size_toArray]; omega)) ⟨e, ?_⟩
  refine ⟨.non, _, I.lset (its' := its.reverse) hH e (by simp) r.reverse ?_, rfl, q⟩
  rw [List.length_reverse]
  omega

def rClear : V → List V → Hp → VK → Prop := fun x vs H Q => ∃ l xs, x = .ref l ∧ vs = [] ∧ H l = some (.lst xs) ∧ Q .non (upd H l (.lst []))
theorem mt_clear : MtM X "list.clear" rClear := by
  intro pins s σ H x vs v us Q I rx rv h
  obtain ⟨l, xs, rfl, rfl, hH, q⟩ := h
  cases rx
  have hus := rv.zero
  subst hus
  obtain ⟨z, its, n, r, hl, e⟩ := I.lstM hH
  refine call_meets F.slot_list_clear ⟨_, e, rfl⟩ F.entry_list_clear (F.args_list_clear_1 _) (AutoSeq1.list_clear_list_0 l its.toArray n (by rw [List.size_toArray]; omega)) ⟨e, ?_⟩
  exact ⟨.non, _, I.lset (its' := []) (ys := []) hH e rfl .nil (Nat.zero_le _), rfl, q⟩

def rCat : R2 := fun x y H Q => ∃ l b xs zs, x = .ref l ∧ y = .ref b ∧ H l = some (.lst xs) ∧ H b = some (.lst zs) ∧ xs.length + zs.length ≤ sizeLine ∧ ∀ p, H p = none → Q (.ref p) (upd H p (.lst (xs ++ zs)))
theorem op_cat : OpR X (binaryOp .Add) rCat := by
  intro pins s σ H x y v u Q I rx ry h
  obtain ⟨l, b, xs, zs, rfl, rfl, hH, hB, hz, q⟩ := h
  cases rx
  cases ry
  obtain ⟨z, its, n, r, hl, e⟩ := I.lstM hH
  obtain ⟨z2, its2, n2, r2, hl2, e2⟩ := I.lstM hB
  refine PySem.P.add_list e e2 ?_ (by rw [List.size_toArray, List.size_toArray]; omega)
  have ea : its.toArray ++ its2.toArray = (its ++ its2).toArray := by simp
  rw [ea]
  exact ⟨.ref _, _, I.lnew (t' := s.toks) (r.append r2) (by rw [List.length_append]; omega), rfl, q _ I.fresh⟩
def rRep : R2 := fun x y H Q => ∃ l k xs, x = .ref l ∧ y = .int k ∧ H l = some (.lst xs) ∧ -(2 ^ 63) ≤ k ∧ k < 2 ^ 63 ∧ xs.length * k.toNat ≤ sizeLine ∧
  ∀ p, H p = none → Q (.ref p) (upd H p (.lst (List.replicate k.toNat xs).flatten))
theorem len_rep {α : Type} (xs : List α) (k : Nat) : (List.replicate k xs).flatten.length = k * xs.length := by
  induction k with
  | zero => simp
  | succ k ih => rw [List.replicate_succ, List.flatten_cons, List.length_append, ih, Nat.succ_mul, Nat.add_comm]
theorem op_rep : OpR X (binaryOp .Mult) rRep := by
  intro pins s σ H x y v u Q I rx ry h
  obtain ⟨l, k, xs, rfl, rfl, hH, h1, h2, hz, q⟩ := h
  cases rx
  obtain ⟨t, rfl⟩ := ry
  obtain ⟨z, its, n, r, hl, e⟩ := I.lstM hH
  have hlen : its.toArray.size * k.toNat ≤ sizeLine := by rw [List.size_toArray, ← hl]; exact hz
  have hcap : ¬ its.toArray.size * k.toNat > (2 ^ 63 - 1) / 8 := by
    have : (sizeLine : Nat) ≤ (2 ^ 63 - 1) / 8 := by decide
    omega
  have hfit : ¬ (!Builtin.List.listFitsIndex k) = true := by
    rw [fitsIndex_both h1 h2]
    exact Bool.false_ne_true
  have hlong : ¬ Builtin.List.listTooLong (its.toArray.size * k.toNat) = true := by
    rw [notLongL hlen]
    exact Bool.false_ne_true
  have hnew : List.foldl (fun x1 x2 => x1 ++ x2) #[] (List.replicate (if its.toArray.isEmpty = true then 0 else k.toNat) its.toArray) = (List.replicate k.toNat its).flatten.toArray := by
    have f0 : ∀ m : Nat, List.foldl (fun x1 x2 => x1 ++ x2) #[] (List.replicate m its.toArray) = (List.replicate m its).flatten.toArray := fun m => by
      have := foldl_rep its m []
      rw [List.nil_append] at this
      exact this
    rw [f0]
    cases its with
    | nil => simp
    | cons a r' => rw [if_neg (by simp)]
  refine wpAny_binaryOp_repeat_ref (T := "list") (U := "int") (by decide) ⟨_, e, rfl⟩ (fun s' => typeIs_int s' k t) noFill_list_mul F.fills_int_mul F.slot_int_rmul repeat_list F.slot_int_index.lookup
    (call_meets F.slot_int_rmul (typeIs_int s k t) F.entry_int_rmul (F.args_int_rmul_2 _ _) (int___rmul___int_list k t l its.toArray n)
      ⟨e, rfl, ⟨_, e, rfl⟩, call_meets F.slot_list_mul ⟨_, e, rfl⟩ F.entry_list_mul (F.args_list_mul_2 _ _) (AutoListH.list___mul___list_int_3 l its.toArray n k t hfit hcap hlong) ⟨e, ?_⟩⟩)
  rw [hnew]
  exact ⟨.ref _, _, I.lnew (t' := s.toks) (r.rep k.toNat) (by rw [len_rep, Nat.mul_comm]; exact hz), rfl, q _ I.fresh⟩

theorem del_list {pins : List (Addr × Obj)} {s : Shared} {σ : St} {H : Hp} {l : Addr} {xs : List V} {i : Int} {t : Tok} {k : Nat} {Q : Unit → Shared → Prop} (I : Inv X pins σ H s) (hH : H l = some (.lst xs))
    (h1 : -(2 ^ 63) ≤ i) (h2 : i < 2 ^ 63) (hk : seqIndex? i xs.length = some k) (h : ∀ s', Inv X pins σ (upd H l (.lst (xs.eraseIdx k))) s' → Q () s') :
    wpAny (model X.prog X.w) X.A (delItem (.ref l) (.int i t)) Q X.xe s := by
  obtain ⟨z, its, n, r, hl, e⟩ := I.lstM hH
  refine PySem.P.delItem_list (k := k) e (fitsIndex_both h1 h2) (by rw [List.size_toArray, ← hl]; exact hk) (h _ ?_) (by rw [List.size_toArray]; omega)
  refine I.lset (its' := its.eraseIdx k) (t' := s.toks) hH e ?_ (r.eraseIdx k) ?_
  · show its.toArray.eraseIdxIfInBounds k = (its.eraseIdx k).toArray
    rw [List.eraseIdxIfInBounds_toArray]
  · have := len_erase xs k
    omega
end

section
variable {prog : Program} {w : World} {A : Around} {E : Value → Shared → Prop} {s : Shared}
theorem splice_eq (its its2 : List Value) (a c : Nat) : its.toArray.extract 0 a ++ its2.toArray ++ its.toArray.extract c its.toArray.size = (its.take a ++ its2 ++ its.drop c).toArray := by
  apply Array.toList_inj.mp
  first
    | (simp
       exact List.take_of_length_le (by simp))
    | simp [List.take_of_length_le]
    | simp
theorem bounds_run {a c n : Nat} (hac : a ≤ c) (hc : c ≤ n) : sliceBounds (some (a : Int)) (some (c : Int)) none n = ((a : Int), (c : Int), 1) := by
  simp only [sliceBounds, Option.getD_none]
  have h1 : ¬ ((a : Int) < 0) := by omega
  have h2 : ¬ ((c : Int) < 0) := by omega
  simp only [h1, h2, if_false, show (1 : Int) > 0 by decide, if_true]
  congr 1
  · omega
  · congr 1; omega
set_option maxRecDepth 100000 in
theorem setItem_slice {l b sl : Addr} {items new : Array Value} {n n2 : Nat} {vl vu : Value} {a c : Nat} {Q : Unit → Shared → Prop}
    (e : s.heap.get? l = some { cls := .type "list", data := .seq items n }) (e2 : s.heap.get? b = some { cls := .type "list", data := .seq new n2 }) (hne : l ≠ b)
    (hs : s.heap.IsSliceOf sl vl vu .none) (pl : IsPart vl (some (a : Int))) (pu : IsPart vu (some (c : Int))) (hac : a ≤ c) (hc : c ≤ items.size)
    (hsz : items.size + new.size ≤ sizeLine) (h : Q () { s with heap := s.heap.update l (Obj.mapSeq fun xs => xs.extract 0 a ++ new ++ xs.extract c xs.size) }) :
    wpAny (model prog w) A (setItem (.ref l) (.ref sl) (.ref b)) Q E s := by
  have hl : s.heap.IsList l items := PySem.IsL.isList e
  have hb : s.heap.IsList b new := PySem.IsL.isList e2
  obtain ⟨os, hos, hcs, hds⟩ := id hs
  have hTs : s.TypeIs (.ref sl) "slice" := ⟨os, hos, hcs⟩
  have hstep : ¬ ((rawPart none == rawInt 0) = true) := Bool.false_ne_true
  have hsame : Builtin.List.listSameRef (.ref l) (.ref b) = false := by
    unfold Builtin.List.listSameRef
    exact beq_eq_false_iff_ne.mpr hne
  have hmax : (max (a : Int) (c : Int)).toNat = c := by omega
  have hz' : ((fun xs : Array Value => xs.extract 0 a ++ new ++ xs.extract c xs.size) items).size ≤ sizeLine + 1 := by
    simp only [Array.size_append, Array.size_extract]
    omega
  unfold setItem
  try with_reducible refine wpAny_holding ?_
  first | refine wpAny_bind (wpAny_pure ?_) | skip
  refine wpAny_bind (wpAny_sequenceKey hl.typeIs (by decide) ?_)
  refine wpAny_bind (wpAny_callSpecial?_slot (name := Str.ofString "__setitem__") hl.typeIs slot_list_setitem
    (wpAny_call_entry slot_list_setitem hl.typeIs entry_list_setitem ?_ (args_list_setitem _ _ _)))
  show wpAny _ _ (Builtin.List.listSubscript? (.ref sl) >>= _) _ _ s
  refine wpAny_bind ?_
  unfold Builtin.List.listSubscript?
  refine wpAny_bind (wpAny_specialOf hTs slice_no_index ?_)
  simp only [Option.isNone_none, if_true]
  refine wpAny_pure ?_
  show wpAny _ _ (typeOf (.ref sl) >>= _) _ _ s
  refine wpAny_bind (wpAny_typeOf hTs ?_)
  first
    | rw [if_neg (by decide)]
    | refine PySem.W.KFB.if_not (by decide) ?_
  rw [listSliceParts_eq]
  refine wpAny_bind (wpAny_bind (wpAny_field hos hds (x := .none) rfl (wpAny_bind (wpAny_listPart .none ?_))))
  rw [if_neg hstep]
  refine wpAny_bind (wpAny_field hos hds (x := vl) rfl (wpAny_bind (wpAny_listPart pl ?_)))
  refine wpAny_bind (wpAny_field hos hds (x := vu) rfl (wpAny_bind (wpAny_listPart pu (wpAny_pure ?_))))
  first
    | simp only [hsame, Bool.false_eq_true, if_false]
    | refine PySem.W.KFB.if_not hsame ?_
    | (dsimp only
       rw [if_neg (by rw [hsame]; exact Bool.false_ne_true)])
  refine wpAny_bind (m := Builtin.List.listAllItems (.ref b) "must assign iterable to extended slice") ?_
  unfold Builtin.List.listAllItems
  refine wpAny_bind (wpAny_typeOf hb.typeIs ?_)
  first
    | refine PySem.W.KFB.if_so (by decide) ?_
    | rw [if_pos (by decide)]
    | simp only [beq_self_eq_true, Bool.true_or, if_true]
  unfold Builtin.List.listItems
  refine wpAny_bind (wpAny_seqItems e2 rfl (wpAny_pure ?_))
  refine wpAny_bind (wpAny_bind (wpAny_seqItems e rfl (wpAny_pure ?_)))
  refine wpAny_bind (wpAny_of_eq ((sliceIndices_raw (some (a : Int)) (some (c : Int)) none items.size (by simp)).trans (congrArg (pure : Int × Int × Int → Sem (Int × Int × Int)) (bounds_run hac hc))) ?_)
  show wpAny _ _ (if ((1 : Int) == 1) = true then _ else _) _ _ s
  rw [if_pos (by decide)]
  refine wpAny_bind (wpAny_rule ?_)
  first
    | simp only [notLongL hsz, Bool.false_eq_true, if_false]
    | refine PySem.W.KFB.if_not (notLongL hsz) ?_
  first | refine wpAny_bind (wpAny_pure ?_) | skip
  show wpAny _ _ (updateSeq l (fun xs => xs.extract 0 ((a : Int)).toNat ++ new ++ xs.extract (max (a : Int) (c : Int)).toNat xs.size) >>= _) _ _ s
  rw [hmax, Int.toNat_natCast]
  refine wpAny_bind (wpAny_updateSeq (hz := Nat.le_trans (Nat.le_add_right _ _) hsz) (_hz' := hz') e rfl ?_)
  refine wpAny_bind (wpAny_letGo ?_)
  first
    | exact wpAny_bind (wpAny_pure (wpAny_pure ⟨.none, rfl, wpAny_pure h⟩))
    | exact wpAny_pure ⟨.none, rfl, wpAny_pure h⟩
end

section
variable {X : Cx}
theorem set_slice {pins : List (Addr × Obj)} {s : Shared} {σ : St} {H : Hp} {l b sl : Addr} {xs ys : List V} {a c : Int} {vl vu : Value} {Q : Unit → Shared → Prop} (I : Inv X pins σ H s)
    (hH : H l = some (.lst xs)) (hB : H b = some (.lst ys)) (hne : l ≠ b) (hs : s.heap.IsSliceOf sl vl vu .none) (ra : RelV (.int a) vl) (rc : RelV (.int c) vu) (h0 : 0 ≤ a) (hac : a ≤ c) (hc : c ≤ xs.length)
    (hz : xs.length + ys.length ≤ sizeLine) (h : ∀ s', Inv X pins σ (upd H l (.lst (xs.take a.toNat ++ ys ++ xs.drop c.toNat))) s' → Q () s') :
    wpAny (model X.prog X.w) X.A (setItem (.ref l) (.ref sl) (.ref b)) Q X.xe s := by
  obtain ⟨ta, rfl⟩ := ra
  obtain ⟨tc, rfl⟩ := rc
  obtain ⟨z, its, n, r, hl, e⟩ := I.lstM hH
  obtain ⟨z2, its2, n2, r2, hl2, e2⟩ := I.lstM hB
  obtain ⟨a', rfl⟩ := Int.eq_ofNat_of_zero_le h0
  obtain ⟨c', rfl⟩ := Int.eq_ofNat_of_zero_le (Int.le_trans h0 hac)
  simp only [Int.toNat_natCast] at h
  refine setItem_slice (a := a') (c := c') e e2 hne hs (.int _ _) (.int _ _) (by omega) (by rw [List.size_toArray]; omega) (by rw [List.size_toArray, List.size_toArray]; omega) (h _ ?_)
  refine I.lset (its' := its.take a' ++ its2 ++ its.drop c') (t' := s.toks) hH e ?_ (Vals.append (Vals.append (r.take _) r2) (r.drop _)) ?_
  · exact splice_eq its its2 a' c'
  · rw [List.length_append, List.length_append, List.length_take, List.length_drop]
    omega
end
end L2

namespace Att
open PySem PySem.W PySem.Calls PyProof.Rows

theorem ints_of_wellAll {P : Params} {h : Heap} : ∀ (ns : List Int) (vs : List Value), WellAll P h vs (ns.map WData.int) → IntsAre vs ns := by
  intro ns
  induction ns with
  | nil =>
    intro vs w
    rw [List.map_nil] at w
    cases w
    exact .nil
  | cons n ns ih =>
    intro vs w
    rw [List.map_cons] at w
    cases w with
    | cons a b =>
      cases a
      exact .cons _ _ (ih _ b)

theorem script_of {l : OpenLaw} {n : Nat} (hn : l.most = some n) {P : Params} {h : Heap} {args : List WData} {vals : List Value}
    (hpre : l.row.toRowW.claim.pre args = true) (hwl : WellAll P h vals args) :
    ∃ a vs ns, vals = [Value.ref a] ∧ args = [WData.list (ns.map WData.int)] ∧ h.get? a = some { cls := .type "list", data := .seq vs.toArray } ∧ IntsAre vs ns ∧ ns.length ≤ n := by
  have hsh : WShape.hasAll [] args [.list .int] = true := (pre_splitW hpre).1
  have hc : l.pre.holds [] { args := args } = true := (pre_splitW hpre).2
  obtain ⟨d, r, rfl, h1, h2⟩ := hasAllW_cons hsh
  obtain rfl := hasAllW_nil h2
  obtain ⟨xs, rfl, h3⟩ := hasW_list h1
  obtain ⟨ns, rfl⟩ := items_int h3
  have hlen : ns.length ≤ n := by
    unfold OpenLaw.pre at hc
    have h4 : (WTm.not (.lt (.lit (.int (n : Int))) (.len (.arg 0)))).holds [] { args := [.list (ns.map .int)] } = true := by
      have h4 := (holds_andW hc).1
      rw [hn] at h4
      exact h4
    have h5 := condW_of h4 (w_not (w_lt w_lit (w_len_list (w_arg rfl))))
    rw [List.length_map] at h5
    refine Nat.le_of_not_lt fun q => ?_
    have q' : (n : Int) < ((ns.length : Nat) : Int) := by omega
    first
      | (rw [decide_eq_true q'] at h5; exact absurd h5 (by decide))
      | (simp at h5; omega)
  cases hwl with
  | cons w1 w2 =>
    cases w2
    cases w1 with
    | list ho hall => exact ⟨_, _, ns, rfl, rfl, ho, ints_of_wellAll ns _ hall, hlen⟩

theorem post_true (l : OpenLaw) (args : List WData) : l.row.toRowW.claim.post args (.bool true) args = true :=
  postW_of (r := l.row.toRowW) (X := (true == true))
    (show WShape.has [] (.bool true) .bool = true by first | rfl | decide | simp [WShape.has, WShape.arms, WShape.armsAll])
    (show (WTm.eq .res (.lit (.bool true))).value [] { args := args, res := some (.bool true), after := args } = some (.bool (true == true)) from w_eq_bool (w_res rfl) w_lit) rfl

theorem attach {l : OpenLaw} {n : Nat} {q : Program} {loose : List Str} {XP : (Str → Option Value) → Heap → Prop} {YP : World → Heap → Prop} {d : DefRec} {x : Str}
    (hn : l.most = some n) (hdf : d.params.defaults = [])
    (hbind : ∀ pm cd doc v : Value, bindArgs (docDef d.name d.params d.body d.scope pm cd doc) ⟨[v], []⟩ = pure [(x, v)])
    (hx : d.scope.names.lookup x = some .local ∨ d.scope.names.lookup x = some .cell)
    (hk : d.scope.kind = .function) (hco : d.scope.isCoroutine = false) (hgen : d.scope.isGenerator = false)
    (body : ∀ (w : World) (s₀ s₁ s : Shared) (mg mb : Str → Option Value) (fa : Addr) (o : Obj) (pm cd doc : Value) (a : Addr) (vs : List Value) (ns : List Int),
      Ground q loose [] XP w s₀ mg mb s₁.heap → YP w s₁.heap →
      s₁.heap.get? fa = some o → o.data = .func (docDef d.name d.params d.body d.scope pm cd doc) → s₁.heap.CodeRec cd d.name → mg d.name = some (.ref fa) →
      s₁.heap.get? a = some { cls := .type "list", data := .seq vs.toArray } → IntsAre vs ns → ns.length ≤ n →
      s.gens = #[] → s.os = s₁.os →
      Fr s₁.heap s₁.heap.objs.size s.heap (bindL (envOfC d.name d.scope s₁.heap.objs.size fa cd).kindOf [(x, .ref a)] fun _ => none) →
      Cl s₁.heap.objs.size (cellsFrom (s₁.heap.objs.size + 1) d.scope.names []) s.heap (bindC (envOfC d.name d.scope s₁.heap.objs.size fa cd).kindOf [(x, .ref a)] fun _ => none) →
      wpAny (model l.prog w) (callerA.deeper (envOfC d.name d.scope s₁.heap.objs.size fa cd)) (execs d.body (envOfC d.name d.scope s₁.heap.objs.size fa cd))
        (fun f s' => f = .ret (.bool true) ∧ OldK s₁.heap s'.heap ∧ s'.os = s₁.os ∧ AllBare s'.gens) (fun _ _ => False) s) :
    WalkO q loose XP YP l.row.toRowW d [] (fun f vs => PySem.call f vs) := by
  intro w s₀ s₁ mg mb G Y fa o pm cd doc dV kV ho hd hcd hD hmg hg args vals as hpre hlay hrd hwl hlo
  obtain rfl : dV = .none := Dflts.none hD hdf
  obtain rfl : kV = .none := Dflts.noKw hD
  obtain ⟨a, vs, ns, rfl, rfl, hobj, hints, hlen⟩ := script_of hn hpre hwl
  refine enter_call ?_
  refine call_cells_ret (o := o) (by rw [depth_caller]; decide) ho (fd_plain hd) G.T.nolimit hcd (hbind pm cd doc (.ref a)) (fun y hy => ?_) (fun h₁ tk F X => ?_) hco hgen hk
  · obtain rfl : y = (x, Value.ref a) := List.mem_singleton.mp hy
    rcases hx with e | e
    · exact .inl e
    · exact .inr ⟨e, cellsFrom_some _ _ _ (.inl e)⟩
  · refine wpAny_mono (body w s₀ s₁ { s₁ with heap := h₁, toks := tk } mg mb fa o pm cd doc a vs ns G Y ho (fd_plain hd) hcd hmg hobj hints hlen hg rfl F X) (fun f s' hq => ?_) (fun _ _ hq => hq)
    obtain ⟨rfl, h2, h3, h4⟩ := hq
    exact ⟨.inl ⟨.bool true, .bool true, [], rfl, fun _ => rfl, .bool true, post_true l _, fun _ => ⟨List.Pairwise.nil, fun _ hm => (nomatch hm)⟩⟩, h2, h3, h4⟩

theorem attach_call {l : OpenLaw} {n : Nat} {q : Program} {loose : List Str} {XP : (Str → Option Value) → Heap → Prop} {YP : World → Heap → Prop} {d : DefRec}
    (hn : l.most = some n) (hdf : d.params.defaults = [])
    (call : ∀ (w : World) (s₀ s₁ : Shared) (mg mb : Str → Option Value) (fa : Addr) (o : Obj) (pm cd doc : Value) (a : Addr) (vs : List Value) (ns : List Int),
      Ground q loose [] XP w s₀ mg mb s₁.heap → YP w s₁.heap →
      s₁.heap.get? fa = some o → o.data = .func (docDef d.name d.params d.body d.scope pm cd doc) → s₁.heap.CodeRec cd d.name → mg d.name = some (.ref fa) →
      s₁.heap.get? a = some { cls := .type "list", data := .seq vs.toArray } → IntsAre vs ns → ns.length ≤ n → s₁.gens = #[] →
      codeAny (model l.prog w) callerA (.call (.ref fa) ⟨[.ref a], []⟩) (fun r s' => r = .ok (.ret (.bool true)) ∧ OldK s₁.heap s'.heap ∧ s'.os = s₁.os ∧ AllBare s'.gens) s₁) :
    WalkO q loose XP YP l.row.toRowW d [] (fun f vs => PySem.call f vs) := by
  intro w s₀ s₁ mg mb G Y fa o pm cd doc dV kV ho hd hcd hD hmg hg args vals as hpre hlay hrd hwl hlo
  obtain rfl : dV = .none := Dflts.none hD hdf
  obtain rfl : kV = .none := Dflts.noKw hD
  obtain ⟨a, vs, ns, rfl, rfl, hobj, hints, hlen⟩ := script_of hn hpre hwl
  refine enter_call (codeAny_mono (call w s₀ s₁ mg mb fa o pm cd doc a vs ns G Y ho (fd_plain hd) hcd hmg hobj hints hlen hg) fun r s' hq => ?_)
  obtain ⟨rfl, h2, h3, h4⟩ := hq
  exact ⟨.inl ⟨.bool true, .bool true, [], rfl, fun _ => rfl, .bool true, post_true l _, fun _ => ⟨List.Pairwise.nil, fun _ hm => (nomatch hm)⟩⟩, h2, h3, h4⟩

theorem attachN {l : OpenLaw} {n : Nat} {q : Program} {loose : List Str} {XP : (Str → Option Value) → Heap → Prop} {YP : World → Heap → Prop} {d : DefRec} {x : Str}
    (hn : l.most = some n) (hdf : d.params.defaults = [])
    (hbind : ∀ pm cd doc v : Value, bindArgs (docDef d.name d.params d.body d.scope pm cd doc) ⟨[v], []⟩ = pure [(x, v)])
    (hx : d.scope.names.lookup x = some .local ∨ d.scope.names.lookup x = some .cell)
    (hk : d.scope.kind = .function) (hco : d.scope.isCoroutine = false) (hgen : d.scope.isGenerator = false)
    (body : ∀ (w : World) (s₀ s₁ s : Shared) (mg mb : Str → Option Value) (fa : Addr) (o : Obj) (pm cd doc : Value) (a : Addr) (vs : List Value) (ns : List Int),
      Ground q loose [] XP w s₀ mg mb s₁.heap → YP w s₁.heap →
      s₁.heap.get? fa = some o → o.data = .func (docDef d.name d.params d.body d.scope pm cd doc) → s₁.heap.CodeRec cd d.name → mg d.name = some (.ref fa) →
      s₁.heap.get? a = some { cls := .type "list", data := .seq vs.toArray } → IntsAre vs ns → ns.length ≤ n →
      s.gens = #[] → s.os = s₁.os →
      Fr s₁.heap s₁.heap.objs.size s.heap (bindL (envOfC d.name d.scope s₁.heap.objs.size fa cd).kindOf [(x, .ref a)] fun _ => none) →
      Cl s₁.heap.objs.size (cellsFrom (s₁.heap.objs.size + 1) d.scope.names []) s.heap (bindC (envOfC d.name d.scope s₁.heap.objs.size fa cd).kindOf [(x, .ref a)] fun _ => none) →
      wpAny (model l.prog w) (callerA.deeper (envOfC d.name d.scope s₁.heap.objs.size fa cd)) (execs d.body (envOfC d.name d.scope s₁.heap.objs.size fa cd))
        (fun f s' => f = .ret (.bool true) ∧ (∀ b o, s₁.heap.get? b = some o → s'.heap.get? b = some o) ∧ s'.os = s₁.os ∧ s'.gens = #[]) (fun _ _ => False) s) :
    WalkN q loose XP YP l.row.toRowW d [] (fun f vs => PySem.call f vs) := by
  intro w s₀ s₁ mg mb G Y fa o pm cd doc dV kV ho hd hcd hD hmg hg args vals as hpre hlay hrd hwl hlo
  obtain rfl : dV = .none := Dflts.none hD hdf
  obtain rfl : kV = .none := Dflts.noKw hD
  obtain ⟨a, vs, ns, rfl, rfl, hobj, hints, hlen⟩ := script_of hn hpre hwl
  refine enter_callW ?_
  refine call_cells_ret (o := o) (by rw [depth_caller]; decide) ho (fd_plain hd) G.T.nolimit hcd (hbind pm cd doc (.ref a)) (fun y hy => ?_) (fun h₁ tk F X => ?_) hco hgen hk
  · obtain rfl : y = (x, Value.ref a) := List.mem_singleton.mp hy
    rcases hx with e | e
    · exact .inl e
    · exact .inr ⟨e, cellsFrom_some _ _ _ (.inl e)⟩
  · refine wpAny_mono (body w s₀ s₁ { s₁ with heap := h₁, toks := tk } mg mb fa o pm cd doc a vs ns G Y ho (fd_plain hd) hcd hmg hobj hints hlen hg rfl F X) (fun f s' hq => ?_) (fun _ _ hq => hq)
    obtain ⟨rfl, h2, h3, h4⟩ := hq
    exact ⟨.inl ⟨.bool true, .bool true, [], rfl, fun _ => rfl, .bool true, post_true l _, fun _ => ⟨List.Pairwise.nil, fun _ hm => (nomatch hm)⟩⟩, h2, h3, h4⟩

section
variable {prog : Program} {w : World} {A : Around} {E : Value → Shared → Prop} {s : Shared} {K : Frag}

theorem call_fn {R : Result → Shared → Prop} {name qual : Str} {params : Arguments} {body : List Stmt} {scope : Scope} {dV kV doc pm cdv ct oc : Value} {an od : Option Addr} {osl : Array (Option Value)} {f : Addr} {args : Args} {binds : List (Str × Value)}
    (X : K.In s.heap) (hlim : s.heap.NoLimit) (ho : K.lookup f = some ⟨oc, od, .func (fnOf name qual params body scope dV kV doc pm an cdv ct), osl⟩) (hcd : codeIn K cdv qual = true) (hroom : A.depth < recursionLimit)
    (hbind : BindsTo s (fnOf name qual params body scope dV kV doc pm an cdv ct) args binds)
    (hkind : (binds.all fun y => scope.names.lookup y.1 == some .local || scope.names.lookup y.1 == some .cell) = true)
    (h : ∀ s₁, InCallC s s.heap.objs.size (bindL (envOfC qual scope s.heap.objs.size f cdv).kindOf binds fun _ => none) (cellsFrom (s.heap.objs.size + 1) scope.names [])
        (bindC (envOfC qual scope s.heap.objs.size f cdv).kindOf binds fun _ => none) s₁ →
      wpAny (model prog w) (A.deeper (envOfC qual scope s.heap.objs.size f cdv)) (execs body (envOfC qual scope s.heap.objs.size f cdv))
        (fun fl s' => R (.ok (.ret (match fl with | .ret v => v | _ => .none))) s')
        (fun e s' => wpAny (model prog w) (A.deeper (envOfC qual scope s.heap.objs.size f cdv)) (leaving (envOfC qual scope s.heap.objs.size f cdv) e) (fun _ s'' => R (.error e) s'') (fun e' s'' => R (.error e') s'') s') s₁)
    (hco : scope.isCoroutine = false) (hgen : scope.isGenerator = false) (hk : scope.kind = .function) : codeAny (model prog w) A (.call (.ref f) args) R s := by
  refine codeAny_call_function hroom (X _ _ ho) rfl hco hgen rfl (codeRec_of X hcd) (hbind _ _ _ _ ?_)
  refine wpAny_newFunctionEnv_cells hk (kindsX hkind _) fun env he s₁ x => ?_
  subst he
  exact ⟨hlim.keeps x.toInCall.keep, codeAny_func (h s₁ x)⟩

theorem make_obj {R : Result → Shared → Prop} {C fI : Addr} {rest : List Value} {kw : List (Str × Value)}
    (X : K.In s.heap) (hm : makesIn K C = true) (hi : findIn K (.ref C) "__init__" = some (some (.ref fI))) (hf : isFn K (.ref fI) = true)
    (h : codeAny (model prog w) (A.under (.builtin "type.__call__" ⟨.ref C :: rest, kw⟩)) (.call (.ref fI) ⟨.ref (s.heap.objs.size + 1) :: rest, kw⟩) (InitBack (s.heap.objs.size + 1) R)
      { s with heap := (s.heap.push emptyDict).push (instObj C s.heap.objs.size) }) : codeAny (model prog w) A (.call (.ref C) ⟨rest, kw⟩) R s := by
  obtain ⟨hh, g, d, t, os⟩ := s
  exact make_core (makes_of X hm) (looks_findIn X hi) (fun self => bind_fn X self (beq_iff_eq.mp hf)) (.inl rfl) h

theorem get_field {x C : Addr} {ox : Obj} {es : List DictEntry} {n : Nat} {name : Str} {expr : Bool} {v : Value} {Q : Value → Shared → Prop}
    (X : K.In s.heap) (I : PySem.W.InstAt s.heap x ox C (some (dictOf es n))) (hg : plainGet K C name = true) (hh : hasDictIn K C = true) (ha : findIn K (.ref C) name = some none)
    (hl : getL name es = some (some v)) (hv : handedIn v = true) (h : Q v { s with toks := s.toks + 1 }) : wpAny (model prog w) A (getAttr (.ref x) name expr) Q E s :=
  get_value X I (plainGet_of hg).1 (findObj_own hh ha rfl hl) hv h

theorem get_method {x C f : Addr} {ox : Obj} {es : List DictEntry} {n : Nat} {name : Str} {pl : Sem Bool} {Q : Value × List Value → Shared → Prop}
    (X : K.In s.heap) (I : PySem.W.InstAt s.heap x ox C (some (dictOf es n))) (hg : plainGet K C name = true) (hf : findIn K (.ref C) name = some (some (.ref f))) (ht : isFn K (.ref f) = true)
    (hl : getL name es = some none) (h : Q (.ref f, [.ref x]) s) : wpAny (model prog w) A (getMethod (.ref x) name pl) Q E s :=
  method_fn X I (plainGet_of hg).1 (plainGet_of hg).2 hf (beq_iff_eq.mp ht) (by show (lookIn name (dictOf es n)).map _ = _; rw [lookIn_dict, hl]; rfl) h

def noObjs (h : Heap) : Heap := { h with objs := #[] }
theorem noObjs_get (h : Heap) (b : Addr) : (noObjs h).get? b = none := by
  cases e : (noObjs h).get? b with
  | none => rfl
  | some o => exact absurd (Heap.lt_size e) (Nat.not_lt_zero _)
def ledger (h : Heap) (L d : Addr) : List (Addr × Obj) := (List.range h.objs.size).filterMap fun a => if a = L ∨ a = d then none else (h.get? a).map fun o => (a, o)
theorem mem_ledger {h : Heap} {L d a : Addr} {o : Obj} : (a, o) ∈ ledger h L d ↔ a ≠ L ∧ a ≠ d ∧ h.get? a = some o := by
  unfold ledger
  rw [List.mem_filterMap]
  constructor
  · rintro ⟨b, _, e⟩
    split at e
    · cases e
    · rename_i hb
      obtain ⟨o', ho, e'⟩ := Option.map_eq_some_iff.mp e
      cases e'
      exact ⟨fun q => hb (.inl q), fun q => hb (.inr q), ho⟩
  · rintro ⟨n1, n2, ho⟩
    refine ⟨a, List.mem_range.mpr (Heap.lt_size ho), ?_⟩
    rw [if_neg (show ¬ (a = L ∨ a = d) from fun q => q.elim n1 n2), ho] <;> rfl
theorem news_ledger {h : Heap} {L d : Addr} {od : Obj} (hne : d ≠ L) (ho : h.get? d = some od) : News (noObjs h) L h ([] ++ (d, od) :: ledger h L d) := by
  rintro ⟨a, o⟩ hp
  rcases List.mem_cons.mp hp with e | hp
  · cases e
    exact ⟨ho, hne, noObjs_get _ _⟩
  · obtain ⟨n1, n2, e⟩ := mem_ledger.mp hp
    exact ⟨e, n1, noObjs_get _ _⟩
theorem fr_all {h : Heap} {L : Addr} {m : Str → Option Value} (n : h.Ns L m) : Fr (noObjs h) L h m :=
  ⟨n, fun b o e => (by rw [noObjs_get] at e; cases e), Nat.zero_le _⟩
theorem upd_ledger {h : Heap} {L d : Addr} {o o' : Obj} : Upd d o o' ((d, o) :: ledger h L d) ((d, o') :: ledger h L d) :=
  .head fun ⟨_, _⟩ hp => (mem_ledger.mp hp).2.1

theorem set_field {x C dx L : Addr} {ox : Obj} {m : Str → Option Value} {es es' : List DictEntry} {n n' : Nat} {name : Str} {v : Value} {Q : Unit → Shared → Prop}
    (X : K.In s.heap) (I : PySem.W.InstAt s.heap x ox C (some (dictOf es n))) (hd : ox.dict = some dx) (hL : s.heap.Ns L m) (hne : dx ≠ L)
    (hs : findIn K (.ref C) "__setattr__" = some (some (.builtin "object.__setattr__"))) (hp : plainOver K C = true) (ht : takerIn K C name = some none) (hh : hasDictIn K C = true) (hl : (getL name es).isSome = true)
    (e : (putL name (PyData.keyHash w.params name) (.str name (s.toks + 1)) v es, putN name es n) = (es', n')) (hz : es'.length ≤ 1000)
    (h : ∀ h' : Heap, h'.Ns L m → h'.get? dx = some (dictOf es' n') → (∀ b o, b ≠ dx → b ≠ L → s.heap.get? b = some o → h'.get? b = some o) → Q () { s with heap := h', toks := s.toks + 2 }) :
    wpAny (model prog w) A (setAttr (.ref x) name v) Q E s := by
  obtain ⟨e1, e2⟩ := Prod.mk.inj e
  have hdx : s.heap.get? dx = some (dictOf es n) := by
    have := I.dict
    rw [hd] at this
    exact this
  refine set_plain X I hs (osa_dict (s := { s with toks := s.toks + 1 }) (h₀ := noObjs s.heap) (L := L) (m := m) (od := dictOf es n) (od' := dictOf es' n') (es := es') (n := n') (pre := []) (post := ledger s.heap L dx)
    (fr_all hL) (news_ledger hne hdx) X I hd hp ht hh hl (fun _ q => nomatch q) (fun ⟨_, _⟩ q => (mem_ledger.mp q).2.1) (by rw [putName_dict, e1, e2]) rfl hz fun h' F' N' => ?_)
  exact h h' F'.ns (N'.get (List.Mem.head _)) fun b o n1 n2 ho => N'.get (List.Mem.tail _ (mem_ledger.mpr ⟨n2, n1, ho⟩))
end
end Att

namespace L2
open PySem PySem.Spec PyProof.Rows

theorem vals_ints : ∀ {vs : List Value} {ns : List Int}, IntsAre vs ns → Vals (ns.map V.int) vs
  | _, _, .nil => .nil
  | _, _, .cons n t h => .cons ⟨t, rfl⟩ (vals_ints h)

def Only (H : Hp) : Prop := ∀ b, H b = none ∨ ∃ o xs, H b = some (.frz o (.lst xs))

theorem law_call {P : Program} {w : World} {K : PySem.W.Frag} {mg mb : Str → Option Value} {CX : CXT} {k : Nat} {fa a : Addr} {fd : FuncData} {x : Str} {sp : Sp} {s₁ : Shared} {vs : List Value} {ns : List Int}
    (KX : K.In s₁.heap) (hns : s₁.heap.Ns mainGlobals mg) (hb : s₁.heap.Ns builtinsNs mb) (hbb : ∀ x : Str, x ≠ "__name__" → mb x = bootBuiltins x) (hlim : s₁.heap.NoLimit) (hg : s₁.gens = #[])
    (ha : s₁.heap.get? a = some { cls := .type "list", data := .seq vs.toArray }) (hi : IntsAre vs ns) (hl : ns.length ≤ sizeLine) (hr : Room k callerA)
    (F : ∀ base : Heap, K.In base → base.Ns mainGlobals mg → FnOk P w K mg base CX k fa fd [x] sp) (hbind : ∀ (s : Shared) (u : Value), BindsTo s fd ⟨[u], []⟩ [(x, u)])
    (hsp : ∀ H : Hp, Only H → SqL K H a (ns.map V.int) → sp [.ref a] H (fun v _ => v = .bl true) fun _ _ _ => False)
    (hCX : ∀ H e s', CX [] H s₁ (fun _ _ _ => False) e s' → False) :
    codeAny (model P w) callerA (.call (.ref fa) ⟨[.ref a], []⟩) (fun r s' => r = .ok (.ret (.bool true)) ∧ OldK s₁.heap s'.heap ∧ s'.os = s₁.os ∧ AllBare s'.gens) s₁ := by
  have rv := vals_ints hi
  have lenV := hi.length
  have core : ∀ H : Hp, Only H → SqL K H a (ns.map V.int) → HOk P w H s₁.heap → (∀ b, H b ≠ none → b = a) → (H a ≠ none → K.lookup a = none) →
      codeAny (model P w) callerA (.call (.ref fa) ⟨[.ref a], []⟩) (fun r s' => r = .ok (.ret (.bool true)) ∧ OldK s₁.heap s'.heap ∧ s'.os = s₁.os ∧ AllBare s'.gens) s₁ := by
    intro H hO hS hok hA hK
    have base_of : ∀ {b : Addr} {o : Obj}, s₁.heap.get? b = some o → H b = none → (hidT s₁.heap H).get? b = some o := fun e n => hidT_get e n
    have noA : ∀ {b : Addr} {o : Obj} {es : Array DictEntry} {ep : Nat}, s₁.heap.get? b = some o → o.data = .dict es ep → H b = none := fun {b o es ep} e d => by
      cases q : H b with
      | none => rfl
      | some u =>
        have e' : b = a := hA b (by rw [q]; simp)
        subst e'
        rw [ha] at e; cases e
        have d' : Data.seq vs.toArray _ = Data.dict es ep := d
        cases d'
    have nsK : ∀ {b : Addr} {m : Str → Option Value}, s₁.heap.Ns b m → (hidT s₁.heap H).Ns b m := fun {b m} ⟨o, es, ep, e, d, r⟩ => ⟨o, es, ep, base_of e (noA e d), d, r⟩
    have hKb : K.In (hidT s₁.heap H) := fun b o e => base_of (KX b o e) (by
      cases q : H b with
      | none => rfl
      | some u =>
        have e' : b = a := hA b (by rw [q]; simp)
        subst e'
        rw [hK (by rw [q]; simp)] at e; cases e)
    have hM : Mod K mg (hidT s₁.heap H) := ⟨hKb, nsK hns, ⟨mb, nsK hb, hbb⟩, let ⟨mc, h1, h2⟩ := hlim; ⟨mc, nsK h1, h2⟩⟩
    have e0 : Env0 P w K mg (hidT s₁.heap H) callerA [] s₁ H := ⟨rfl, hM, fun b o e => of_hidT e, Nat.le_of_eq (hidT_size _ _), trivial, fun b hb => absurd (show b ∈ ([] : List Addr) from hb) (by simp), hok, .of_eq hg⟩
    refine codeAny_mono ((F _ hKb (nsK hns)).run callerA [] s₁ H ⟨[.ref a], []⟩ [.ref a] [.ref a] _ _ hr e0 (hbind s₁ (.ref a)) (.cons rfl .nil) (hsp H hO hS)) fun r s' h => ?_
    cases r with
    | error e => exact (hCX H e s' h).elim
    | ok fl =>
      cases fl with
      | next => exact False.elim h
      | brk => exact False.elim h
      | cont => exact False.elim h
      | ret u =>
        obtain ⟨v, H', os, bare, un, hok', r', q⟩ := h
        have q' : v = .bl true := q
        subst q'
        obtain rfl : u = Value.bool true := r'
        refine ⟨rfl, OldK.of_keep fun b o e => ?_, os, bare⟩
        cases q : H b with
        | none => exact un.keep b o e q (by intro z; exact absurd (show b ∈ ([] : List Addr) from z) (by simp)) (by simp)
        | some u =>
          rcases hO b with z | ⟨ob, xs, z⟩
          · rw [q] at z; cases z
          · have z2 := un.frzs b ob _ z
            obtain ⟨e1, _⟩ := hok b _ z
            obtain ⟨e2, _⟩ := hok' b _ z2
            rw [e] at e1; cases e1
            exact e2
  cases hk : K.lookup a with
  | some o =>
    have e := KX a o hk
    rw [ha] at e
    cases e
    refine core (fun _ => none) (fun _ => .inl rfl) (.inr ⟨_, vs.toArray, _, hk, rfl, rfl, rfl, by rw [List.size_toArray, lenV]; exact hl, by simpa using rv⟩) (fun b u z => by have z' : (none : Option HO) = some u := z; cases z') (fun b z => absurd rfl z) fun z => absurd rfl z
  | none =>
    refine core (fun b => if b = a then some (.frz { cls := .type "list", data := .seq vs.toArray } (.lst (ns.map V.int))) else none) (fun b => ?_) (.inl (.inr ⟨{ cls := .type "list", data := .seq vs.toArray }, if_pos rfl⟩)) (fun b u z => ?_) (fun b z => ?_) fun _ => hk
    · by_cases hb : b = a
      · exact .inr ⟨_, _, if_pos hb⟩
      · exact .inl (if_neg hb)
    · by_cases hb : b = a
      · have z' := (if_pos hb).symm.trans z
        cases z'
        subst hb
        exact ⟨ha, by rw [List.length_map]; exact hl, vs, _, rv, ha⟩
      · have z' := (if_neg hb).symm.trans z
        cases z'
    · by_cases hb : b = a
      · exact hb
      · exact absurd (if_neg hb) z
end L2

namespace L2
open PySem PySem.Spec PyProof.Rows

abbrev KOf {K : PySem.W.Frag} {h : Heap} (_ : K.In h) : PySem.W.Frag := K

theorem walk_of {l : PySem.W.OpenLaw} {n k : Nat} {q : Program} {loose : List Str} {XP : (Str → Option Value) → Heap → Prop} {YP : World → Heap → Prop} {d : DefRec} {K : Params → PySem.W.Frag} {CX : World → CXT} {sp : World → Sp} {x : Str}
    (hn : l.most = some n) (hn2 : n ≤ sizeLine) (hdf : d.params.defaults = []) (hr : Room k callerA)
    (hY : ∀ (w : World) (h : Heap), YP w h → (K w.params).In h)
    (F : ∀ (w : World) (mg : Str → Option Value) (fa : Addr) (h : Heap), (K w.params).In h → h.Ns mainGlobals mg → mg d.name = some (.ref fa) →
      ∃ fd : FuncData, (∀ (s : Shared) (u : Value), BindsTo s fd ⟨[u], []⟩ [(x, u)]) ∧
        ∀ base : Heap, (K w.params).In base → base.Ns mainGlobals mg → FnOk l.prog w (K w.params) mg base (CX w) k fa fd [x] (sp w))
    (hsp : ∀ (w : World) (H : Hp) (a : Addr) (ns : List Int), ns.length ≤ n → Only H → SqL (K w.params) H a (ns.map V.int) → sp w [.ref a] H (fun v _ => v = .bl true) fun _ _ _ => False)
    (hCX : ∀ (w : World) (H : Hp) (s : Shared) (e : Value) (s' : Shared), CX w [] H s (fun _ _ _ => False) e s' → False) :
    PySem.W.WalkO q loose XP YP l.row.toRowW d [] (fun f vs => PySem.call f vs) := by
  refine Att.attach_call hn hdf fun w s₀ s₁ mg mb fa o pm cd doc a vs ns G Y ho hd hcd hmg hobj hints hlen hg => ?_
  have KX := hY w _ Y
  obtain ⟨fd, hb, hF⟩ := F w mg fa _ KX G.T.g hmg
  exact law_call KX G.T.g G.T.b G.T.builtins G.T.nolimit hg hobj hints (Nat.le_trans hlen hn2) hr hF hb (fun H hO hS => hsp w H a ns hlen hO hS) fun H e s' => hCX w H s₁ e s'
theorem walk_ofK {l : PySem.W.OpenLaw} {n k : Nat} {q : Program} {loose : List Str} {XP : (Str → Option Value) → Heap → Prop} {YP : World → Heap → Prop} {d : DefRec} {K : Params → PySem.W.Frag} {CX : CXT} {sp : PySem.W.Frag → Sp} {x : Str}
    (hn : l.most = some n) (hn2 : n ≤ sizeLine) (hdf : d.params.defaults = []) (hr : Room k callerA)
    (hY : ∀ (w : World) (h : Heap), YP w h → (K w.params).In h)
    (F : ∀ (w : World) (mg : Str → Option Value) (fa : Addr) (h : Heap), (K w.params).In h → h.Ns mainGlobals mg → mg d.name = some (.ref fa) →
      ∃ fd : FuncData, (∀ (s : Shared) (u : Value), BindsTo s fd ⟨[u], []⟩ [(x, u)]) ∧
        ∀ base : Heap, (K w.params).In base → base.Ns mainGlobals mg → FnOk l.prog w (K w.params) mg base CX k fa fd [x] (sp (K w.params)))
    (hsp : ∀ (K : PySem.W.Frag) (H : Hp) (a : Addr) (ns : List Int), ns.length ≤ n → Only H → SqL K H a (ns.map V.int) → sp K [.ref a] H (fun v _ => v = .bl true) fun _ _ _ => False)
    (hCX : ∀ (H : Hp) (s : Shared) (e : Value) (s' : Shared), CX [] H s (fun _ _ _ => False) e s' → False) :
    PySem.W.WalkO q loose XP YP l.row.toRowW d [] (fun f vs => PySem.call f vs) :=
  walk_of (K := K) (CX := fun _ => CX) (sp := fun w => sp (K w.params)) hn hn2 hdf hr hY F (fun w H a ns h1 h2 h3 => hsp (K w.params) H a ns h1 h2 h3) fun _ H s e s' => hCX H s e s'
end L2


namespace L2
open PySem PySem.Spec PyProof.Rows

def inClass (s : Stmt) (j : Nat) : Stmt := match s with
  | .ClassDef _ _ _ body _ _ _ _ _ _ _ => body.getD j (.Pass ⟨0, 0, 0, 0⟩)
  | _ => .Pass ⟨0, 0, 0, 0⟩
def defArgs (s : Stmt) : Arguments := match s with
  | .FunctionDef _ a _ _ _ _ _ _ _ _ => a
  | _ => { posonlyargs := [], args := [], vararg := none, kwonlyargs := [], kw_defaults := [], kwarg := none, defaults := [] }
def defBody (s : Stmt) : List Stmt := match s with
  | .FunctionDef _ _ b _ _ _ _ _ _ _ => b
  | _ => []
def defScope (s : Stmt) : Scope := match s with
  | .FunctionDef _ _ _ _ _ _ sc _ _ _ => sc
  | _ => { kind := .function, names := [], isGenerator := false, isCoroutine := false }

abbrev CX0 : CXT := fun _ _ _ _ _ _ => False
abbrev E0 : XK := fun _ _ _ => False
theorem pass0 {X : Cx} : Passes CX0 X E0 := fun _ _ _ _ _ _ _ h => h.elim

structure Fun (K : PySem.W.Frag) (x qual : Str) (st : Stmt) (f : Addr) (fd : FuncData) : Prop where
  ex : ∃ (oc : Value) (od : Option Addr) (kV doc pm : Value) (an : Option Addr) (cdv ct : Value) (osl : Array (Option Value)),
    fd = PySem.W.fnOf x qual (defArgs st) (defBody st) (defScope st) .none kV doc pm an cdv ct ∧ K.lookup f = some ⟨oc, od, .func fd, osl⟩ ∧ PySem.W.codeIn K cdv qual = true
  kp : PySem.W.keepIn K (.ref f) = true
section
variable {P : Program} {w : World} {K : PySem.W.Frag} {mg : Str → Option Value} {base : Heap}
theorem Fun.ok {x qual : Str} {st : Stmt} {f : Addr} {fd : FuncData} {N ps : List Str} {k : Nat} {sp : Sp} (F : Fun K x qual st f fd) (S : FnScope N ps (defScope st)) (len : ∀ vs H Q E, sp vs H Q E → vs.length = ps.length)
    (hbody : ∀ (cdv : Value) (A : Around) (outer : List Env) (s : Shared) (H : Hp) (vs : List V) (Q : VK) (E : XK), Room k (A.deeper (envOfC qual (defScope st) s.heap.objs.size f cdv)) → sp vs H Q E →
      ∃ t, PSs (cxOf CX0 P w K mg base N qual (defScope st) f cdv A outer s H E).nox (defBody st) t ∧ t { nx := fun _ H' => Q .non H', rt := Q } (start N vs) H) : FnOk P w K mg base CX0 (k + 1) f fd ps sp := by
  obtain ⟨oc, od, kV, doc, pm, an, cdv, ct, osl, rfl, lk, hcd⟩ := F.ex
  refine fn_of lk hcd S len fun A outer s H vs Q E hr hsp => ?_
  obtain ⟨t, h, q⟩ := hbody cdv A outer s H vs Q E hr hsp
  exact ⟨t, h.nox, q⟩
theorem Fun.binds {x qual : Str} {st : Stmt} {f : Addr} {fd : FuncData} {ps : List Str} (F : Fun K x qual st f fd)
    (h : ∀ (kV doc pm : Value) (an : Option Addr) (cdv ct : Value) (us : List Value), us.length = ps.length → bindArgs (PySem.W.fnOf x qual (defArgs st) (defBody st) (defScope st) .none kV doc pm an cdv ct) ⟨us, []⟩ = pure (ps.zip us)) : Binds K fd ps [] := by
  obtain ⟨oc, od, kV, doc, pm, an, cdv, ct, osl, rfl, lk, hcd⟩ := F.ex
  exact .all (h kV doc pm an cdv ct)
theorem fun_mk {x qual : Str} {st : Stmt} {f : Addr} {oc : Value} {od an : Option Addr} {osl : Array (Option Value)} {kV doc pm cdv ct : Value} (l : K.lookup f = some ⟨oc, od, .func (PySem.W.fnOf x qual (defArgs st) (defBody st) (defScope st) .none kV doc pm an cdv ct), osl⟩)
    (c : PySem.W.codeIn K cdv qual = true) (k : PySem.W.keepIn K (.ref f) = true) : Fun K x qual st f (PySem.W.fnOf x qual (defArgs st) (defBody st) (defScope st) .none kV doc pm an cdv ct) := ⟨⟨oc, od, kV, doc, pm, an, cdv, ct, osl, rfl, l, c⟩, k⟩
end
theorem hu_of {A : Around} {k : Nat} (hr : Room k A) : A.units + 1 < cLine := Nat.lt_of_le_of_lt (Nat.add_le_add_left (by decide : 1 ≤ 64) _) hr.units
theorem small1000 {n : Nat} (h : n ≤ 1000) : n < sizeLine := Nat.lt_of_le_of_lt h (by decide)

section
variable {X : Cx}
theorem pv (i : Nat) {x : Str} {pos : Pos} (hN : X.N[i]? = some x := by rfl) (hv : Vis X.env.scope x := by first | exact Or.inl rfl | exact Or.inr (Or.inl rfl) | exact Or.inr (Or.inr rfl)) (hd : (x == ("__debug__" : Str)) = false := by decide)
    (hcd : (x == ("__classdict__" : Str)) = false := by decide) : PE X (.Name x pos) (tVar i) := pe_var hN hv hd hcd
end

theorem iteF {A B : Prop} (h : B) : if false = true then A else B := by
  rw [if_neg Bool.false_ne_true]
  exact h
theorem iteT {A B : Prop} (h : A) : if true = true then A else B := by
  rw [if_pos rfl]
  exact h
theorem ite2 {c A B : Prop} [Decidable c] (h1 : c → A) (h2 : ¬ c → B) : if c then A else B := by
  by_cases h : c
  · rw [if_pos h]
    exact h1 h
  · rw [if_neg h]
    exact h2 h
theorem iteNS {c A B : Prop} [Decidable c] (hc : c) (h : B) : if (!decide c) = true then A else B := by
  rw [decide_eq_true hc]
  exact iteF h

def Same (H H' : Hp) : Prop := ∀ b o, H b = some o → H' b = some o
theorem Same.refl (H : Hp) : Same H H := fun _ _ h => h
theorem Same.trans {H H1 H2 : Hp} (a : Same H H1) (b : Same H1 H2) : Same H H2 := fun c o h => b c o (a c o h)
theorem Same.free {H H' : Hp} (e : Same H H') {l : Addr} (h : H' l = Option.none) : H l = Option.none := by
  cases q : H l with
  | none => rfl
  | some o =>
    rw [e l o q] at h
    cases h
theorem Same.seq {K : PySem.W.Frag} {H H' : Hp} {a : Addr} {xs : List V} (e : Same H H') (h : SqL K H a xs) : SqL K H' a xs := by
  rcases h with (h | ⟨o, h⟩) | h
  · exact .inl (.inl (e _ _ h))
  · exact .inl (.inr ⟨o, e _ _ h⟩)
  · exact .inr h

end L2

set_option maxRecDepth 100000
set_option maxHeartbeats 4000000
namespace SpM

def mem : Nat → Int
  | 0 => 1
  | 1 => 2
  | n + 2 => mem (n + 1) + mem n

theorem mem_ss (n : Nat) : mem (n + 2) = mem (n + 1) + mem n := by rw [mem]
theorem mem_pos2 : ∀ n : Nat, 1 ≤ mem n ∧ mem n + 1 ≤ mem (n + 1)
  | 0 => by simp [mem]
  | n + 1 => by
    have h := mem_pos2 n
    rw [mem_ss]
    omega
theorem mem_pos (n : Nat) : 1 ≤ mem n := (mem_pos2 n).1
theorem mem_lt_succ (n : Nat) : mem n < mem (n + 1) := by have := (mem_pos2 n).2; omega
theorem mem_mono {a b : Nat} (h : a ≤ b) : mem a ≤ mem b := by
  induction b with
  | zero => have : a = 0 := by omega
            subst this; omega
  | succ b ih =>
    by_cases e : a = b + 1
    · subst e; omega
    · have := ih (by omega)
      have := mem_lt_succ b
      omega
theorem mem_double (n : Nat) : 2 * mem n ≤ mem (n + 2) := by
  rw [mem_ss]; have := mem_lt_succ n; omega
theorem two_pow_le_mem : ∀ b : Nat, (2 : Int) ^ b ≤ mem (2 * b)
  | 0 => by simp [mem]
  | b + 1 => by
    have h := two_pow_le_mem b
    have d := mem_double (2 * b)
    have e : 2 * (b + 1) = 2 * b + 2 := by omega
    rw [e, Int.pow_succ]
    omega

theorem mem_le_two_pow : ∀ n : Nat, mem n ≤ (2 : Int) ^ n
  | 0 => by simp [mem]
  | 1 => by simp [mem]
  | n + 2 => by
    have h := mem_le_two_pow (n + 1)
    have l := mem_lt_succ n
    rw [mem_ss, Int.pow_succ]
    omega

def row (n : Nat) : List Int := (List.range n).map mem
theorem row_length (n : Nat) : (row n).length = n := by simp [row]
theorem row_get {n i : Nat} (h : i < n) : (row n)[i]? = some (mem i) := by simp [row, h]
theorem row_succ (n : Nat) : row (n + 1) = row n ++ [mem n] := by simp [row, List.range_succ]
theorem row_take {n k : Nat} (h : k ≤ n) : (row n).take k = row k := by
  simp only [row, ← List.map_take, List.take_range]
  rw [Nat.min_eq_left h]

def val : List Int → Int
  | [] => 0
  | p :: r => mem p.toNat + val r
theorem val_append (a b : List Int) : val (a ++ b) = val a + val b := by
  induction a with
  | nil => simp [val]
  | cons p r ih => simp only [List.cons_append, val, ih]; omega
theorem val_nonneg (a : List Int) : 0 ≤ val a := by
  induction a with
  | nil => simp [val]
  | cons p r ih => simp only [val]; have := mem_pos p.toNat; omega
theorem val_eq_sum (a : List Int) : (a.map fun p => mem p.toNat).sum = val a := by
  induction a with
  | nil => rfl
  | cons p r ih => simp only [List.map_cons, List.sum_cons, val, ih]

def Form : List Int → Prop
  | [] => True
  | [a] => 0 ≤ a
  | a :: b :: r => b + 2 ≤ a ∧ Form (b :: r)

theorem Form.tail {a : Int} {r : List Int} (h : Form (a :: r)) : Form r := by
  cases r with
  | nil => trivial
  | cons b r => exact h.2
theorem Form.head {a : Int} : ∀ {r : List Int}, Form (a :: r) → 0 ≤ a
  | [], h => h
  | b :: r, h => by
    have := Form.head h.2
    have := h.1
    omega
theorem Form.mem_nonneg : ∀ {f : List Int}, Form f → ∀ p ∈ f, 0 ≤ p
  | [], _, p, hp => by simp at hp
  | a :: r, h, p, hp => by
    rcases List.mem_cons.mp hp with e | hp
    · subst e; exact h.head
    · exact Form.mem_nonneg h.tail p hp
theorem Form.mem_le : ∀ {a : Int} {r : List Int}, Form (a :: r) → ∀ p ∈ r, p + 2 ≤ a
  | a, [], _, p, hp => by simp at hp
  | a, b :: r, h, p, hp => by
    rcases List.mem_cons.mp hp with e | hp
    · subst e; exact h.1
    · have := Form.mem_le h.2 p hp
      have := h.1
      omega
theorem Form.cons {a : Int} {r : List Int} (h : Form r) (ha : 0 ≤ a) (hr : ∀ p ∈ r, p + 2 ≤ a) : Form (a :: r) := by
  cases r with
  | nil => exact ha
  | cons b r => exact ⟨hr b List.mem_cons_self, h⟩

theorem val_lt : ∀ {a : Int} {r : List Int}, Form (a :: r) → mem a.toNat ≤ val (a :: r) ∧ val (a :: r) < mem (a.toNat + 1)
  | a, [], _ => by
    simp only [val]
    have := mem_lt_succ a.toNat
    omega
  | a, b :: r, h => by
    have ih := val_lt h.2
    have hb := h.2.head
    have hab := h.1
    obtain ⟨k, hk⟩ : ∃ k, a.toNat = k + 1 := ⟨a.toNat - 1, by omega⟩
    have hle : mem (b.toNat + 1) ≤ mem k := mem_mono (by omega)
    have hs := mem_ss k
    have e : val (a :: b :: r) = mem a.toNat + val (b :: r) := rfl
    rw [e, hk]
    have p := val_nonneg (b :: r)
    constructor
    · omega
    · show mem (k + 1) + val (b :: r) < mem (k + 1 + 1)
      rw [hs]; omega

def lex : List Int → List Int → Bool
  | [], [] => false
  | [], _ :: _ => true
  | _ :: _, [] => false
  | x :: xs, y :: ys => if x = y then lex xs ys else decide (x < y)

theorem lex_iff : ∀ {f g : List Int}, Form f → Form g → (lex f g = true ↔ val f < val g)
  | [], [], _, _ => by simp [lex, val]
  | [], b :: t, _, hg => by
    have h := (val_lt hg).1
    have := mem_pos b.toNat
    simp only [lex, val] at *
    simp only [true_iff]
    omega
  | a :: r, [], hf, _ => by
    have h := (val_lt hf).1
    have := mem_pos a.toNat
    simp only [lex, val] at *
    simp only [Bool.false_eq_true, false_iff]
    omega
  | a :: r, b :: t, hf, hg => by
    by_cases e : a = b
    · subst e
      have ih := lex_iff hf.tail hg.tail
      have q : lex (a :: r) (a :: t) = lex r t := by simp [lex]
      rw [q, ih]
      simp only [val]
      omega
    · have q : lex (a :: r) (b :: t) = decide (a < b) := by simp [lex, e]
      rw [q]
      have ha := hf.head
      have hb := hg.head
      have h1 := val_lt hf
      have h2 := val_lt hg
      by_cases l : a < b
      · have := mem_mono (a := a.toNat + 1) (b := b.toNat) (by omega)
        simp only [l, decide_true, true_iff]
        omega
      · have := mem_mono (a := b.toNat + 1) (b := a.toNat) (by omega)
        simp only [l, decide_false, Bool.false_eq_true, false_iff]
        omega

theorem lex_none : ∀ {f g : List Int}, lex f g = false → lex g f = false → f = g
  | [], [], _, _ => rfl
  | [], b :: t, h, _ => by simp [lex] at h
  | a :: r, [], _, h => by simp [lex] at h
  | a :: r, b :: t, h1, h2 => by
    by_cases e : a = b
    · subst e
      have q1 : lex (a :: r) (a :: t) = lex r t := by simp [lex]
      have q2 : lex (a :: t) (a :: r) = lex t r := by simp [lex]
      rw [q1] at h1; rw [q2] at h2
      rw [lex_none h1 h2]
    · have q1 : lex (a :: r) (b :: t) = decide (a < b) := by simp [lex, e]
      have q2 : lex (b :: t) (a :: r) = decide (b < a) := by simp [lex, Ne.symm e]
      rw [q1] at h1; rw [q2] at h2
      have := of_decide_eq_false h1
      have := of_decide_eq_false h2
      omega

theorem form_unique {f g : List Int} (hf : Form f) (hg : Form g) (e : val f = val g) : f = g := by
  refine lex_none ?_ ?_
  · cases q : lex f g with
    | false => rfl
    | true => have := (lex_iff hf hg).mp q; omega
  · cases q : lex g f with
    | false => rfl
    | true => have := (lex_iff hg hf).mp q; omega

def greedy : Nat → Int → List Int
  | 0, _ => []
  | k + 1, n => if mem k ≤ n then (k : Int) :: greedy k (n - mem k) else greedy k n

theorem greedy_lt : ∀ (k : Nat) (n : Int), ∀ p ∈ greedy k n, 0 ≤ p ∧ p < k
  | 0, n, p, hp => by simp [greedy] at hp
  | k + 1, n, p, hp => by
    simp only [greedy] at hp
    split at hp
    · rcases List.mem_cons.mp hp with e | hp
      · omega
      · have := greedy_lt k _ p hp; omega
    · have := greedy_lt k _ p hp; omega
theorem greedy_ok : ∀ (k : Nat) (n : Int), 0 ≤ n → n < mem k → Form (greedy k n) ∧ val (greedy k n) = n
  | 0, n, h0, h1 => by
    simp only [mem] at h1
    simp only [greedy, Form, val, true_and]
    omega
  | k + 1, n, h0, h1 => by
    simp only [greedy]
    by_cases c : mem k ≤ n
    · rw [if_pos c]
      cases k with
      | zero =>
        simp only [mem] at c h1
        have : n = 1 := by omega
        subst this
        refine ⟨?_, ?_⟩
        · show Form [((0 : Nat) : Int)]
          simp [Form]
        · simp [greedy, val, mem]
      | succ j =>
        rw [mem_ss] at h1
        have hj : n - mem (j + 1) < mem j := by omega
        have e : greedy (j + 1) (n - mem (j + 1)) = greedy j (n - mem (j + 1)) := by
          show (if mem j ≤ n - mem (j + 1) then _ else _) = _
          rw [if_neg (by omega)]
        have ih := greedy_ok j (n - mem (j + 1)) (by omega) hj
        rw [e]
        refine ⟨Form.cons ih.1 (by omega) fun p hp => ?_, ?_⟩
        · have := greedy_lt j _ p hp
          omega
        · simp only [val, ih.2, Int.toNat_natCast]
          omega
    · rw [if_neg c]
      exact greedy_ok k n h0 (by omega)
theorem greedy_val {k : Nat} {f : List Int} (hf : Form f) (h : val f < mem k) : greedy k (val f) = f := by
  have q := greedy_ok k (val f) (val_nonneg f) h
  exact form_unique q.1 hf q.2
theorem form_lt_mem {f : List Int} {k : Nat} (hf : Form f) (h : ∀ p ∈ f, p < k) : val f < mem k := by
  cases f with
  | nil => simp only [val]; have := mem_pos k; omega
  | cons a r =>
    have := (val_lt hf).2
    have hp := h a List.mem_cons_self
    have h0 := hf.head
    have := mem_mono (a := a.toNat + 1) (b := k) (by omega)
    omega
end SpM

namespace SpM
def up (f : List Int) : List Int := f.map (· + 1)
theorem up_nil : up [] = [] := rfl
theorem up_cons (a : Int) (r : List Int) : up (a :: r) = (a + 1) :: up r := rfl
theorem form_shift {c : Int} : ∀ {f : List Int}, Form f → (∀ p ∈ f, 0 ≤ p + c) → Form (f.map (· + c))
  | [], _, _ => trivial
  | [a], _, h => h a List.mem_cons_self
  | a :: b :: r, h, q => by
    refine ⟨?_, form_shift (f := b :: r) h.2 fun p hp => q p (List.mem_cons_of_mem _ hp)⟩
    have := h.1
    show b + c + 2 ≤ a + c
    omega
theorem form_up {f : List Int} (h : Form f) : Form (up f) := form_shift h fun p hp => by have := h.mem_nonneg p hp; omega
theorem val_up_up : ∀ {f : List Int}, (∀ p ∈ f, 0 ≤ p) → val (up (up f)) = val (up f) + val f
  | [], _ => rfl
  | a :: r, h => by
    have ih := val_up_up (f := r) fun p hp => h p (List.mem_cons_of_mem _ hp)
    have ha := h a List.mem_cons_self
    simp only [up_cons, val, ih]
    have e1 : (a + 1 + 1).toNat = a.toNat + 2 := by omega
    have e2 : (a + 1).toNat = a.toNat + 1 := by omega
    rw [e1, e2, mem_ss]
    omega
theorem form_split : ∀ {f : List Int}, Form f → (∃ g, Form g ∧ f = up g) ∨ ∃ g, Form g ∧ f = up (up g) ++ [0]
  | [], _ => .inl ⟨[], trivial, rfl⟩
  | [a], h => by
    have h0 : 0 ≤ a := h
    by_cases e : a = 0
    · subst e; exact .inr ⟨[], trivial, rfl⟩
    · refine .inl ⟨[a - 1], (show 0 ≤ a - 1 by omega), ?_⟩
      simp [up]
  | a :: b :: r, h => by
    have hab := h.1
    rcases form_split h.2 with ⟨g, hg, e⟩ | ⟨g, hg, e⟩
    · refine .inl ⟨(a - 1) :: g, Form.cons hg ?_ ?_, ?_⟩
      · have := h.2.head; omega
      · intro p hp
        have : p + 1 ∈ b :: r := by rw [e]; exact List.mem_map.mpr ⟨p, hp, rfl⟩
        have := Form.mem_le h _ this
        omega
      · rw [up_cons, ← e]
        simp
    · refine .inr ⟨(a - 2) :: g, Form.cons hg ?_ ?_, ?_⟩
      · have := h.2.head; omega
      · intro p hp
        have : p + 1 + 1 ∈ b :: r := by
          rw [e]
          exact List.mem_append_left _ (List.mem_map.mpr ⟨p + 1, List.mem_map.mpr ⟨p, hp, rfl⟩, rfl⟩)
        have := Form.mem_le h _ this
        omega
      · rw [up_cons, up_cons, List.cons_append, ← e]
        congr 1
        omega

def Lo (m n : Int) : Prop := m * m < m * n + n * n
def Hi (m n : Int) : Prop := m * m > m * n + n * n
def Share (n s : Int) : Prop := Lo (s + 1) (n + 1) ∧ Hi (s + 2) (n + 1)

theorem Lo.lt2 {m n : Int} (hn : 0 < n) (h : Lo m n) : m < 2 * n := by
  unfold Lo at h
  false_or_by_contra
  rename_i c
  have c' : 2 * n ≤ m := by omega
  have h1 : n * n ≤ n * (m - n) := Int.mul_le_mul_of_nonneg_left (by omega) (by omega)
  have h2 : 0 ≤ (m - n) * (m - 2 * n) := Int.mul_nonneg (by omega) (by omega)
  have h3 : 0 < n * n := Int.mul_pos hn hn
  grind

theorem share_zero : Share 0 0 := by unfold Share Lo Hi; decide
theorem share_up {n s : Int} (hn : 0 ≤ n) (hs : 0 ≤ s) (h : Share n s) : Share s (n + s) := by
  have hlt := Lo.lt2 (by omega) h.1
  unfold Share Lo Hi at *
  obtain ⟨h1, h2⟩ := h
  constructor
  · grind
  · grind
theorem share_zero_at {n s : Int} (hn : 0 ≤ n) (hs : 0 ≤ s) (h : Share n s) : Share (n + s + 1) (n + s + s + 2) := by
  have hlt := Lo.lt2 (by omega) h.1
  unfold Share Lo Hi at *
  obtain ⟨h1, h2⟩ := h
  constructor
  · grind
  · grind

theorem val_one (p : Int) : val [p] = mem p.toNat := by simp [val]
theorem form_share_aux : ∀ (k : Nat) {f : List Int}, Form f → (∀ p ∈ f, p < k) → Share (val f) (val (up f))
  | 0, f, hf, hk => by
    cases f with
    | nil => exact share_zero
    | cons a r =>
      have := hk a List.mem_cons_self
      have := hf.head
      omega
  | k + 1, f, hf, hk => by
    rcases form_split hf with ⟨g, hg, e⟩ | ⟨g, hg, e⟩
    · subst e
      have ih := form_share_aux k hg fun p hp => by
        have := hk (p + 1) (List.mem_map.mpr ⟨p, hp, rfl⟩)
        omega
      have q := share_up (val_nonneg g) (val_nonneg (up g)) ih
      rw [val_up_up hg.mem_nonneg, Int.add_comm]
      exact q
    · subst e
      have ih := form_share_aux k hg fun p hp => by
        have := hk (p + 1 + 1) (List.mem_append_left _ (List.mem_map.mpr ⟨p + 1, List.mem_map.mpr ⟨p, hp, rfl⟩, rfl⟩))
        omega
      have q := share_zero_at (val_nonneg g) (val_nonneg (up g)) ih
      have e1 : val (up (up g) ++ [0]) = val g + val (up g) + 1 := by
        rw [val_append, val_up_up hg.mem_nonneg, val_one]
        simp only [Int.toNat_zero, mem]
        omega
      have e2 : val (up (up (up g) ++ [0])) = val g + val (up g) + val (up g) + 2 := by
        have z : up (up (up g) ++ [0]) = up (up (up g)) ++ [1] := by simp [up]
        rw [z, val_append, val_up_up (f := up g) (form_up hg).mem_nonneg, val_up_up hg.mem_nonneg, val_one]
        show _ + mem 1 = _
        simp only [mem]
        omega
      rw [e1, e2]
      exact q
theorem form_share {f : List Int} (hf : Form f) : Share (val f) (val (up f)) := by
  refine form_share_aux (f.foldr (fun p k => max p.toNat k) 0 + 1) hf ?_
  have aux : ∀ (l : List Int) (p : Int), p ∈ l → p.toNat ≤ l.foldr (fun p k => max p.toNat k) 0 := by
    intro l
    induction l with
    | nil => intro p hp; simp at hp
    | cons a r ih =>
      intro p hp
      rw [List.foldr_cons]
      rcases List.mem_cons.mp hp with e | hp
      · subst e; omega
      · have := ih p hp; omega
  intro p hp
  have := aux f p hp
  omega

theorem sq_lt {a b : Int} (hb : 0 < b) (h : a * a < b * b) : a < b := by
  false_or_by_contra
  rename_i c
  have : b * b ≤ a * a := Int.mul_le_mul (by omega) (by omega) (by omega) (by omega)
  omega
theorem sq_gt {a b : Int} (ha : 0 < a) (hb : 0 ≤ b) (h : b * b < a * a) : b < a := sq_lt ha h

theorem Lo.add {m n m' n' : Int} (hn : 0 < n) (hn' : 0 < n') (h : Lo m n) (h' : Lo m' n') : Lo (m + m') (n + n') := by
  have p1 : (2 * m - n) * (2 * m - n) < 5 * (n * n) := by unfold Lo at h; grind
  have p2 : (2 * m' - n') * (2 * m' - n') < 5 * (n' * n') := by unfold Lo at h'; grind
  have nn : 0 < n * n := Int.mul_pos hn hn
  have nn' : 0 < n' * n' := Int.mul_pos hn' hn'
  have sq0 : ∀ x : Int, 0 ≤ x * x := fun x => by
    rcases Int.le_total 0 x with c | c
    · exact Int.mul_nonneg c c
    · have := Int.mul_nonneg (a := -x) (b := -x) (by omega) (by omega)
      grind
  have z1 := sq0 (2 * m - n)
  have z2 := sq0 (2 * m' - n')
  have key : (2 * m - n) * (2 * m' - n') < 5 * (n * n') := by
    refine sq_lt (by have := Int.mul_pos hn hn'; omega) ?_
    have a1 : ((2 * m - n) * (2 * m - n)) * ((2 * m' - n') * (2 * m' - n')) ≤ (5 * (n * n)) * ((2 * m' - n') * (2 * m' - n')) := Int.mul_le_mul_of_nonneg_right (by omega) z2
    have a2 : (5 * (n * n)) * ((2 * m' - n') * (2 * m' - n')) < (5 * (n * n)) * (5 * (n' * n')) := Int.mul_lt_mul_of_pos_left p2 (by omega)
    grind
  unfold Lo
  grind
theorem Hi.lt {m n : Int} (hm : 0 < m) (hn : 0 ≤ n) (h : Hi m n) : n < m := by
  unfold Hi at h
  false_or_by_contra
  rename_i c
  have : m * m ≤ m * n := Int.mul_le_mul_of_nonneg_left (by omega) (by omega)
  have : 0 ≤ n * n := Int.mul_nonneg hn hn
  omega
theorem Hi.add {m n m' n' : Int} (hm : 0 < m) (hm' : 0 < m') (hn : 0 < n) (hn' : 0 < n') (h : Hi m n) (h' : Hi m' n') : Hi (m + m') (n + n') := by
  have l1 := Hi.lt hm (by omega) h
  have l2 := Hi.lt hm' (by omega) h'
  have p1 : 5 * (n * n) < (2 * m - n) * (2 * m - n) := by unfold Hi at h; grind
  have p2 : 5 * (n' * n') < (2 * m' - n') * (2 * m' - n') := by unfold Hi at h'; grind
  have nn : 0 < n * n := Int.mul_pos hn hn
  have nn' : 0 < n' * n' := Int.mul_pos hn' hn'
  have key : 5 * (n * n') < (2 * m - n) * (2 * m' - n') := by
    refine sq_lt (Int.mul_pos (by omega) (by omega)) ?_
    have a1 : (5 * (n * n)) * (5 * (n' * n')) < (5 * (n * n)) * ((2 * m' - n') * (2 * m' - n')) := Int.mul_lt_mul_of_pos_left p2 (by omega)
    have a2 : (5 * (n * n)) * ((2 * m' - n') * (2 * m' - n')) < ((2 * m - n) * (2 * m - n)) * ((2 * m' - n') * (2 * m' - n')) := Int.mul_lt_mul_of_pos_right p1 (by omega)
    grind
  unfold Hi
  grind
theorem Lo.anti {m k n : Int} (hk : 0 ≤ k) (hn : 0 < n) (h : Lo m n) (c : k ≤ m) : Lo k n := by
  unfold Lo at *
  have nn : 0 < n * n := Int.mul_pos hn hn
  by_cases d : k ≤ n
  · have : k * k ≤ k * n := Int.mul_le_mul_of_nonneg_left d hk
    omega
  · have a1 : k * (k - n) ≤ m * (m - n) := Int.mul_le_mul c (by omega) (by omega) (by omega)
    grind
theorem Hi.mono {m k n : Int} (hm : 0 < m) (hn : 0 ≤ n) (h : Hi m n) (c : m ≤ k) : Hi k n := by
  have l := Hi.lt hm hn h
  unfold Hi at *
  have a1 : m * (m - n) ≤ k * (k - n) := Int.mul_le_mul c (by omega) (by omega) (by omega)
  grind
theorem not_both {m n : Int} (h : Lo m n) (h' : Hi m n) : False := by unfold Lo Hi at *; omega

theorem share_next {n s s' : Int} (hn : 0 ≤ n) (hs : 0 ≤ s) (h : Share n s) (h' : Share (n + 1) s') (hs' : 0 ≤ s') : s < s' := by
  false_or_by_contra
  rename_i c
  have q := Hi.mono (by omega) (by omega) h'.2 (show s' + 2 ≤ s + 1 + 1 by omega)
  have p := Lo.add (by omega) (by decide) h.1 (show Lo 1 1 by unfold Lo; decide)
  exact not_both p q
theorem share_sum {n s m r t : Int} (hn : 0 ≤ n) (hs : 0 ≤ s) (hm : 0 ≤ m) (hr : 0 ≤ r) (ht : 0 ≤ t) (h1 : Share n s) (h2 : Share m r) (h : Share (n + m) t) : -1 ≤ t - s - r ∧ t - s - r ≤ 1 := by
  constructor
  · false_or_by_contra
    rename_i c
    have q0 : Hi (t + 2) (n + m + 1) := h.2
    have q1 := Hi.mono (by omega) (by omega) q0 (show t + 2 ≤ s + r by omega)
    have q2 := Hi.add (by omega) (by decide) (by omega) (by decide) q1 (show Hi 2 1 by unfold Hi; decide)
    have p := Lo.add (by omega) (by omega) h1.1 h2.1
    have e1 : s + 1 + (r + 1) = s + r + 2 := by omega
    have e2 : n + 1 + (m + 1) = n + m + 1 + 1 := by omega
    rw [e1, e2] at p
    exact not_both p q2
  · false_or_by_contra
    rename_i c
    have p0 : Lo (t + 1) (n + m + 1) := h.1
    have p1 := Lo.anti (by omega) (by omega) p0 (show s + r + 3 ≤ t + 1 by omega)
    have p2 := Lo.add (by omega) (by decide) p1 (show Lo 1 1 by unfold Lo; decide)
    have q := Hi.add (by omega) (by omega) (by omega) (by omega) h1.2 h2.2
    have e1 : s + 2 + (r + 2) = s + r + 3 + 1 := by omega
    have e2 : n + 1 + (m + 1) = n + m + 1 + 1 := by omega
    rw [e1, e2] at q
    exact not_both p2 q

def down (f : List Int) : List Int := (f.filter fun p => decide (0 < p)).map (· - 1)
theorem down_up {g : List Int} (h : ∀ p ∈ g, 0 ≤ p) : down (up g) = g := by
  induction g with
  | nil => rfl
  | cons a r ih =>
    have ha := h a List.mem_cons_self
    have ih := ih fun p hp => h p (List.mem_cons_of_mem _ hp)
    unfold down at *
    rw [up_cons, List.filter_cons, if_pos (by simp; omega), List.map_cons, ih]
    congr 1
    omega
theorem down_up_zero {g : List Int} (h : ∀ p ∈ g, 0 ≤ p) : down (up g ++ [0]) = g := by
  have q := down_up h
  unfold down at *
  rw [List.filter_append, List.map_append, q]
  simp
theorem form_down {f : List Int} (hf : Form f) : Form (down f) := by
  rcases form_split hf with ⟨g, hg, e⟩ | ⟨g, hg, e⟩
  · subst e; rw [down_up hg.mem_nonneg]; exact hg
  · subst e; rw [down_up_zero (form_up hg).mem_nonneg]; exact form_up hg
theorem lo_of_hi {a b : Int} (h : Hi (b + 2) (a + 1)) : Lo (a + b + 3) (b + 2) := by unfold Hi Lo at *; grind
theorem down_share {f h : List Int} (hf : Form f) (hh : Form h) (e : val h = val (down f) + 1) : val (up (down f)) ≤ val f ∧ val f < val (up h) := by
  have sh := form_share hh
  rw [e] at sh
  rcases form_split hf with ⟨g, hg, z⟩ | ⟨g, hg, z⟩
  · subst z
    rw [down_up hg.mem_nonneg] at *
    refine ⟨Int.le_refl _, share_next (val_nonneg g) (val_nonneg _) (form_share hg) sh (val_nonneg _)⟩
  · subst z
    rw [down_up_zero (form_up hg).mem_nonneg] at *
    have e1 : val (up (up g) ++ [0]) = val (up (up g)) + 1 := by
      rw [val_append, val_one]
      simp only [Int.toNat_zero, mem]
    rw [e1]
    refine ⟨by omega, ?_⟩
    false_or_by_contra
    rename_i c
    have lo := lo_of_hi (form_share hg).2
    rw [val_up_up hg.mem_nonneg] at c
    have hi := Hi.mono (by have := val_nonneg (up h); omega) (by have := val_nonneg (up g); omega) sh.2 (show val (up h) + 2 ≤ val g + val (up g) + 3 by omega)
    have e2 : val (up g) + 1 + 1 = val (up g) + 2 := by omega
    rw [e2] at hi
    exact not_both lo hi
end SpM

namespace L2
open PySem PySem.Spec PyProof.Rows
section
variable {X : Cx} {pins : List (Addr × Obj)} {σ : St} {H : Hp} {s : Shared} {a : Addr}
theorem Inv.track {o : HO} (I : Inv X pins σ H s) (hn : H a = none) (y : X.s₀.heap.get? a = none) (hL : a ≠ X.env.locals) (hC : ∀ x c, X.env.cells.lookup x = some c → c ≠ a) (hp : ∀ p ∈ X.pn ++ pins, p.1 ≠ a)
    (new : ObjOk X.prog X.w (upd H a o) s.heap a o) : Inv X pins σ (upd H a o) s := by
  have ne : ∀ {b : Addr} {u : HO}, H b = some u → upd H a o b = some u := fun {b u} e => by rw [upd_ne (ne_of_none e hn)]; exact e
  refine ⟨I.ok, I.os, I.bare, ⟨I.base.keep, I.base.slot, fun b ob q n hx => ?_, I.base.there, fun b xs q => ne (I.base.tups b xs q), fun b ob xs q => ne (I.base.frzs b ob xs q), fun b ps q => ?_⟩, I.loc, I.cell, ?_, fun x c e => ?_, fun p hq => ?_, fun b u e => ?_, I.len⟩
  · have nb : b ≠ a := fun z => by rw [z, y] at q; cases q
    rw [upd_ne nb]
    exact I.base.free b ob q n hx
  · obtain ⟨m1, e1⟩ := I.base.tbls b ps q
    exact ⟨m1, ne e1⟩
  · rw [upd_ne (Ne.symm hL)]
    exact I.free
  · rw [upd_ne (hC x c e)]
    exact I.freeC x c e
  · obtain ⟨p1, p2, p3⟩ := I.pin p hq
    exact ⟨p1, by rw [upd_ne (hp p hq)]; exact p2, p3⟩
  · by_cases hb : b = a
    · subst hb
      rw [upd_same] at e
      cases e
      exact new
    · rw [upd_ne hb] at e
      exact (I.hok b u e).stay (fun _ _ _ q => q) (fun _ q => ne q) fun _ _ q => ne q

theorem Inv.frame_set {σ' : St} {h' : Heap} {m' : Str → Option Value} {tk : Nat} (I : Inv X pins σ H s) (hn' : h'.Ns X.env.locals m') (hs : Heap.SameBut X.env.locals s.heap h')
    (hl : ∀ (i : Nat) (x : Str) (v : V), X.N[i]? = some x → σ'[i]? = some (some v) → Vis X.env.scope x → ∃ u, RelV v u ∧ Look X.env h' m' x u) (len : σ'.length = X.N.length) :
    Inv X pins σ' H { s with heap := h', toks := tk } := by
  have lo : ∀ b o, X.s₀.heap.get? b = some o → b ≠ X.env.locals := fun b o e => Nat.ne_of_lt (Nat.lt_of_lt_of_le (Heap.lt_size e) I.ok.above)
  refine ⟨I.ok, I.os, I.bare, ⟨fun b o e n hb hx => (hs.2 b (lo b o e)).trans (I.base.keep b o e n hb hx), fun b o e n hb hx => ?_, I.base.free, fun b o e hx => ?_, I.base.tups, I.base.frzs, I.base.tbls⟩, ⟨m', hn', hl⟩, fun y c e => ?_, I.free, I.freeC, fun p hp => ?_, fun b u e => ?_, len⟩
  · obtain ⟨sl, e1⟩ := I.base.slot b o e n hb hx
    exact ⟨sl, (hs.2 b (lo b o e)).trans e1⟩
  · obtain ⟨o', e1⟩ := I.base.there b o e hx
    exact ⟨o', (hs.2 b (lo b o e)).trans e1⟩
  · obtain ⟨v, z⟩ := I.cell y c e
    exact ⟨v, z.sameBut hs (I.cne y c e)⟩
  · obtain ⟨p1, p2, p3, p4⟩ := I.pin p hp
    exact ⟨(hs.2 p.1 p3).trans p1, p2, p3, p4⟩
  · refine (I.hok b u e).stay (fun c v hc q => (hs.2 c fun z => ?_).trans q) (fun _ q => q) fun _ _ q => q
    subst z
    rcases hc with z | z
    · rw [← z, I.free] at e
      cases e
    · rw [I.free] at z
      cases z
end
end L2

namespace L2
open PySem PySem.Spec PyProof.Rows

section
variable {P : Program} {w : World} {H H' : Hp} {g h h' B : Heap} {l : List Env}
theorem ObjOk.at_ {a : Addr} {o : HO} (x : ObjOk P w H h a o) : ∃ ob, h.get? a = some ob := by
  cases o with
  | lst xs => obtain ⟨_, _, _, _, e⟩ := x; exact ⟨_, e⟩
  | tup xs => obtain ⟨_, _, _, ob, e, _⟩ := x; exact ⟨_, e⟩
  | dK kvs => obtain ⟨_, _, _, _, o, _, _, e, _⟩ := x; exact ⟨_, e⟩
  | dT kvs => obtain ⟨_, _, _, _, o, _, _, e, _⟩ := x; exact ⟨_, e⟩
  | set S n => obtain ⟨o, _, _, _, e, _⟩ := x; exact ⟨_, e⟩
  | ins C dx fs => obtain ⟨_, _, _, e, _⟩ := x; exact ⟨_, e⟩
  | own y => exact x
  | xd fs => obtain ⟨_, ⟨_, _, _, e, _⟩, _⟩ := x; exact ⟨_, e⟩
  | rng lo hi => obtain ⟨_, _, _, e⟩ := x; exact ⟨_, e⟩
  | frz ob u => obtain ⟨e, _⟩ := x; exact ⟨_, e⟩
  | tbl ps => exact ⟨_, x⟩
  | met f y => exact ⟨_, x⟩
  | ext φ => obtain ⟨_, e, _⟩ := x; exact e

theorem hok_move (hok : HOk P w H' h) (c2 : ∀ b u, H' b = some u → ∃ o, B.get? b = some o) (s1 : B.StaysIn h) (s2 : B.StaysIn h') : HOk P w H' h' := fun a u e =>
  (hok a u e).stay (fun b v hb q => by
    have t : ∃ u', H' b = some u' := hb.elim (fun z => ⟨u, z ▸ e⟩) fun z => ⟨_, z⟩
    obtain ⟨u', e'⟩ := t
    obtain ⟨o', eo⟩ := c2 b u' e'
    have z := s1 b o' eo
    rw [q] at z
    cases z
    exact s2 b _ eo) (fun _ q => q) fun _ _ q => q

theorem un_move (u : Un (frs l) [] H H' g h) (c1 : ∀ b o, g.get? b = some o → b ∉ frs l → ∃ o', B.get? b = some o') (s1 : B.StaysIn h) (s2 : B.StaysIn h')
    (fr : ∀ b ∈ frs l, ∀ o, h.get? b = some o → ∃ sl, h'.get? b = some { o with slots := sl }) : Un (frs l) [] H H' g h' where
  keep := fun b o q n hb hx => by
    have q1 := u.keep b o q n hb hx
    obtain ⟨o', eo⟩ := c1 b o q hb
    have q2 := s1 b o' eo
    rw [q1] at q2
    cases q2
    exact s2 b _ eo
  slot := fun b o q n hb hx => by
    obtain ⟨sl, q1⟩ := u.slot b o q n hb hx
    obtain ⟨sl', q2⟩ := fr b hb _ q1
    exact ⟨sl', q2⟩
  free := u.free
  there := fun b o q hx => by
    by_cases hb : b ∈ frs l
    · obtain ⟨o1, q1⟩ := u.there b o q hx
      obtain ⟨sl, q2⟩ := fr b hb _ q1
      exact ⟨_, q2⟩
    · obtain ⟨o', eo⟩ := c1 b o q hb
      exact ⟨o', s2 b o' eo⟩
  tups := u.tups
  frzs := u.frzs
  tbls := u.tbls

theorem fr_of (ff : h.FunFrames B l) (up : h.UpToSlots h') : ∀ b ∈ frs l, ∀ o, h.get? b = some o → ∃ sl, h'.get? b = some { o with slots := sl } := fun b hb o e => by
  obtain ⟨_, o', e', nf⟩ := ff.mem hb
  rw [e] at e'
  cases e'
  exact up b o e nf
end

def CXO (P : Program) (w : World) : CXT := fun outer H s E e s' => ∃ (a C : Addr) (H' : Hp) (B : Heap) (a0 : Value),
  e = .ref a ∧ s'.os = s.os ∧ AllBare s'.gens ∧ Un (frs outer) [] H H' s.heap s'.heap ∧ HOk P w H' s'.heap ∧ Heap.FlyingW B outer a (.ref C) a0 s'.heap ∧
  (∀ b o, s.heap.get? b = some o → b ∉ frs outer → ∃ o', B.get? b = some o') ∧ (∀ b u, H' b = some u → ∃ o', B.get? b = some o') ∧ E (.ref C) none H'

section
variable {P : Program} {w : World} {K : PySem.W.Frag} {mg : Str → Option Value} {base : Heap} {N : List Str} {qual : Str} {scope : Scope} {f : Addr} {cd : Value} {A : Around} {outer : List Env} {s0 : Shared} {H0 : Hp} {E : XK}
abbrev cxO (P : Program) (w : World) (K : PySem.W.Frag) (mg : Str → Option Value) (base : Heap) (N : List Str) (qual : Str) (scope : Scope) (f : Addr) (cd : Value) (A : Around) (outer : List Env) (s0 : Shared) (H0 : Hp) (E : XK) : Cx :=
  cxOf (CXO P w) P w K mg base N qual scope f cd A outer s0 H0 E

theorem off_stack {pins : List (Addr × Obj)} {σ : St} {H : Hp} {s : Shared} {b : Addr} {o : Obj} {X : Cx} (I : Inv X pins σ H s) (q : X.s₀.heap.get? b = some o) (hb : b ∉ X.fs) : b ∉ frs X.stack := fun z => by
  rcases List.mem_cons.mp (I.stkSub b z) with e | e
  · have := Heap.lt_size q
    have := I.ok.above
    rw [e] at *
    exact absurd (Nat.lt_of_lt_of_le ‹_› ‹_›) (Nat.lt_irrefl _)
  · exact hb e

theorem throw_O {pins : List (Addr × Obj)} {σ : St} {H : Hp} {s : Shared} {h' : Heap} {e C : Addr} {args : List Value} (I : Inv (cxO P w K mg base N qual scope f cd A outer s0 H0 E) pins σ H s)
    (hx : Heap.MadeExcOf s.heap h' e (.ref C) args) (hE : E (.ref C) none H) : (cxO P w K mg base N qual scope f cd A outer s0 H0 E).xe (.ref e) { s with heap := h' } := by
  have inB : ∀ b o, s.heap.get? b = some o → b ∉ frs (cxO P w K mg base N qual scope f cd A outer s0 H0 E).stack → (PySem.W.hideAll s.heap (frs (cxO P w K mg base N qual scope f cd A outer s0 H0 E).stack)).get? b = some o := fun b o q n => PySem.W.hideAll_get _ q n
  have st1 : (PySem.W.hideAll s.heap (frs (cxO P w K mg base N qual scope f cd A outer s0 H0 E).stack)).StaysIn s.heap := fun b o q => PySem.W.of_hideAll _ q
  have c2 : ∀ b u, H b = some u → ∃ o', (PySem.W.hideAll s.heap (frs (cxO P w K mg base N qual scope f cd A outer s0 H0 E).stack)).get? b = some o' := fun b u q => by
    obtain ⟨ob, eo⟩ := (I.hok b u q).at_
    refine ⟨ob, inB b ob eo fun z => ?_⟩
    rw [I.stkFree b z] at q
    cases q
  have c1 : ∀ b o, s0.heap.get? b = some o → b ∉ frs outer → ∃ o', (PySem.W.hideAll s.heap (frs (cxO P w K mg base N qual scope f cd A outer s0 H0 E).stack)).get? b = some o' := fun b o q hb => by
    obtain ⟨o1, q1⟩ := I.base.there b o q (by show b ∉ ([] : List Addr); simp)
    exact ⟨o1, inB b o1 q1 (off_stack I q hb)⟩
  refine wpAny_leaves_madeW (base := PySem.W.hideAll s.heap (frs (cxO P w K mg base N qual scope f cd A outer s0 H0 E).stack)) (h := s.heap) (outer := outer) I.ok.frames rfl st1
    (PySem.W.funFrames_hide I.stack fun env he b hb => List.mem_filterMap.mpr ⟨env, he, hb⟩) hx fun h2 t fl tp nt up => ?_
  refine ⟨e, C, H, _, _, rfl, I.os, I.bare, un_move I.base c1 st1 fl.1 fun b hb o q => ?_, hok_move I.hok c2 st1 fl.1, fl, c1, c2, hE⟩
  obtain ⟨_, o', e', nf⟩ := I.funs.mem hb
  rw [q] at e'
  cases e'
  exact up b o (hx.keeps b o q) nf

theorem pass_O : Passes (CXO P w) (cxO P w K mg base N qual scope f cd A outer s0 H0 E) E := by
  intro pins σ H s e s' I hc
  obtain ⟨a, C, H', B, a0, rfl, os, bare, un, hok, fl, c1, c2, hE⟩ := hc
  refine wpAny_leaves_onW (outer := outer) I.ok.frames rfl fl fun h2 fl2 up => ?_
  have un2 := un_move un c1 fl.1 fl2.1 (fr_of fl.2.2.1 up)
  have n0 : ∀ b o, s0.heap.get? b = some o → b ∉ ([] : List Addr) := fun _ _ _ z => by simp at z
  refine ⟨a, C, H', B, a0, rfl, os.trans I.os, bare, ⟨fun b o q n hb hx => ?_, fun b o q n hb hx => ?_, fun b o q n hx => ?_, fun b o q hx => ?_, fun b xs q => un2.tups b xs (I.base.tups b xs q), fun b o xs q => un2.frzs b o xs (I.base.frzs b o xs q), fun b ps q => ?_⟩, hok_move hok c2 fl.1 fl2.1, fl2, fun b o q hb => ?_, c2, hE⟩
  · exact un2.keep b o (I.base.keep b o q n hb hx) (I.base.free b o q n hx) (off_stack I q hb) hx
  · obtain ⟨sl, q1⟩ := I.base.slot b o q n hb hx
    obtain ⟨sl', q2⟩ := un2.any q1 (I.base.free b o q n hx) hx
    exact ⟨sl', q2⟩
  · obtain ⟨o1, q1⟩ := I.base.there b o q hx
    exact un2.free b o1 q1 (I.base.free b o q n hx) hx
  · obtain ⟨o1, q1⟩ := I.base.there b o q hx
    exact un2.there b o1 q1 hx
  · obtain ⟨m1, e1⟩ := I.base.tbls b ps q
    obtain ⟨m2, e2⟩ := un2.tbls b _ e1
    exact ⟨m1 ++ m2, by rw [e2, Array.append_assoc]⟩
  · obtain ⟨o1, q1⟩ := I.base.there b o q (n0 b o q)
    exact c1 b o1 q1 (off_stack I q hb)
end

abbrev veMro : List Value := [.type "ValueError", .type "Exception", .type "BaseException", .type "object"]
structure ExcCl (K : PySem.W.Frag) (mg : Str → Option Value) (x : Str) (C : Addr) : Prop where
  bound : mg x = some (.ref C)
  isx : PySem.W.excIn K C veMro "ValueError.__new__" = true

theorem ownCls_of {K : PySem.W.Frag} {h : Heap} {mg : Str → Option Value} {x : Str} {C : Addr} {bs : List Value} {new : String} (X : K.In h) (hm : mg x = some (.ref C)) (q : PySem.W.excIn K C bs new = true) : OwnCls x C bs new mg h := by
  refine ⟨hm, ?_⟩
  unfold PySem.W.excIn at q
  split at q
  · rename_i dic cdat slo look
    split at q
    · rename_i C1 mro1 s0 s1 s2 s3 made s5 hmro hslo
      simp only [beq_iff_eq, Bool.and_eq_true, Bool.not_eq_true'] at q
      obtain ⟨⟨⟨⟨⟨rfl, rfl⟩, del⟩, tl⟩, okN⟩, noI⟩ := q
      obtain ⟨c1, c2, c3, c4, c5, c6, c7, c8, c9, c10, c11⟩ := cdat
      dsimp only at hmro del okN noI
      subst hmro del
      have es : slo = #[s0, s1, s2, s3, some (.builtin made), s5] := by
        obtain ⟨sl⟩ := slo
        simp only at hslo
        rw [hslo]
      subst es
      exact ⟨mro1, c4, c1, c5, c2, c6, c7, c8, c9, c10, dic, s0, s1, s2, s3, s5, _, X _ _ look, .of_isNs (PySem.W.isNs_of_in X okN), PySem.W.nsMap_none_of_in X okN noI, PySem.W.tail_of_in X tl⟩
    · exact Bool.noConfusion q
  · exact Bool.noConfusion q

def tRaise (C : Addr) (E : XK) (t : TA) : TS := fun _ σ H => t σ H fun vs H1 => vs.length ≤ sizeLine ∧ E (.ref C) none H1
section
variable {P : Program} {w : World} {K : PySem.W.Frag} {mg : Str → Option Value} {base : Heap} {N : List Str} {qual : Str} {scope : Scope} {f : Addr} {cd : Value} {A : Around} {outer : List Env} {s0 : Shared} {H0 : Hp} {E : XK}
theorem ps_raise {x : Str} {C : Addr} {np cpos pos : Pos} {e : Expr} {es : List Expr} {t : TA} (O : ExcCl K mg x C) (hh : A.handled = none)
    (hg : Gl (cxO P w K mg base N qual scope f cd A outer s0 H0 E) x) (ha : PA (cxO P w K mg base N qual scope f cd A outer s0 H0 E) (e :: es) t) (hd : (x == ("__debug__" : Str)) = false := by decide)
    (he : starEach (e :: es) (cxO P w K mg base N qual scope f cd A outer s0 H0 E).env = (false, eval e (cxO P w K mg base N qual scope f cd A outer s0 H0 E).env) :: starEach es (cxO P w K mg base N qual scope f cd A outer s0 H0 E).env := by rfl)
    (hpl : (backTo cpos (starEach es (cxO P w K mg base N qual scope f cd A outer s0 H0 E).env)).any (·.1) = false := by rfl) :
    PS (cxO P w K mg base N qual scope f cd A outer s0 H0 E) (.Raise (some (.Call (.Name x np) (e :: es) [] cpos)) none pos) (tRaise C E t) := by
  intro pins s σ H D I h
  obtain ⟨tl, N', nm, q, bs, hdct, sn, sub, ab, col, dd, k0, k1, k2, k3, k5, mN, hC, hN, hni, T⟩ := (ownCls_of (mg := mg) (x := x) I.mod.kin O.bound O.isx).obj
  have pl0 : (backTo cpos (starEach (e :: es) (cxO P w K mg base N qual scope f cd A outer s0 H0 E).env)).any (·.1) = false := by
    rw [he]
    exact hpl
  refine wpAny_Raise_call_subT (k0 := k0) (k1 := k1) (k2 := k2) (k3 := k3) (k5 := k5) (dd := dd) (col := col) (ab := ab) (sub := sub) (sn := sn) (hdct := hdct) (bm := tl) (bs := bs) (N := N') (q := q) (nm := nm) (C := C) PySem.F.excBase_ValueError (mN := mN) (T.hasType PySem.F.excBase_ValueError.hasBase) hh pl0 hni (ld_glob I hg O.bound ⟨rfl, ?_⟩ hd)
  have hp := ha cpos pins s σ H _ I h
  rw [he] at hp ⊢
  refine Calls.evalArgs_plain (thn hp fun us s1 ⟨vs, H1, I1, r, hz, hE⟩ => ?_)
  exact ⟨rfl, by rw [← r.length]; exact hz, I1.bk _ _ hC, hN.keeps I1.bk, T.keeps I1.bk, fun h' a hm => throw_O I1 hm hE⟩
end

abbrev Cx.hold (X : Cx) (pl : List (Addr × Obj)) (W : Value → Shared → Prop) : Cx := { X with pn := X.pn ++ pl, xe := W }
abbrev Cx.inExc (X : Cx) (a : Addr) : Cx := { X with A := X.A.mark (some (.ref a)), calm := false, xe := fun _ _ => False }
section
variable {X : Cx} {pins pl : List (Addr × Obj)} {σ : St} {H : Hp} {s : Shared} {W : Value → Shared → Prop} {a : Addr}
theorem Cx.Ok.hold (o : X.Ok) : (X.hold pl W).Ok := ⟨o.mod, o.kind, o.glob, o.blt, o.above, o.inj, o.has, o.cab, o.hd, o.frames, o.stk, o.exf, o.bs, o.bsz, o.noex, o.exfs, o.funs, o.frf⟩
theorem Cx.Ok.unhold (o : (X.hold pl W).Ok) : X.Ok := ⟨o.mod, o.kind, o.glob, o.blt, o.above, o.inj, o.has, o.cab, o.hd, o.frames, o.stk, o.exf, o.bs, o.bsz, o.noex, o.exfs, o.funs, o.frf⟩
theorem Cx.Ok.inExc (o : X.Ok) : (X.inExc a).Ok := ⟨o.mod, o.kind, o.glob, o.blt, o.above, o.inj, o.has, o.cab, fun z => Bool.noConfusion z, o.frames, o.stk, o.exf, o.bs, o.bsz, o.noex, o.exfs, o.funs, o.frf⟩
theorem Inv.hold (I : Inv X pins σ H s) : Inv (X.hold pins W) [] σ H s := ⟨I.ok.hold, I.os, I.bare, I.base, I.loc, I.cell, I.free, I.freeC, fun p hp => I.pin p (by simpa using hp), I.hok, I.len⟩
theorem Inv.unhold (I : Inv (X.hold pl W) pins σ H s) : Inv X pl σ H s := ⟨I.ok.unhold, I.os, I.bare, I.base, I.loc, I.cell, I.free, I.freeC, fun p hp => I.pin p (List.mem_append_left _ hp), I.hok, I.len⟩
theorem Inv.inExc (I : Inv X pins σ H s) : Inv (X.inExc a) pins σ H s := ⟨I.ok.inExc, I.os, I.bare, I.base, I.loc, I.cell, I.free, I.freeC, I.pin, I.hok, I.len⟩
theorem Inv.outExc (I : Inv (X.inExc a) pins σ H s) (o : X.Ok) : Inv X pins σ H s := ⟨o, I.os, I.bare, I.base, I.loc, I.cell, I.free, I.freeC, I.pin, I.hok, I.len⟩

end

def excO (a : Addr) (cls : Value) : HO := .ext fun h => ∃ o vs, h.get? a = some o ∧ o.cls = cls ∧ o.data = .fields vs
theorem excO_ok {P : Program} {w : World} {H : Hp} {h : Heap} {a : Addr} {cls : Value} {o : Obj} {vs : Array Value} (e : h.get? a = some o) (c : o.cls = cls) (d : o.data = .fields vs) : ObjOk P w H h a (excO a cls) :=
  ⟨⟨o, vs, e, c, d⟩, ⟨o, e⟩, fun h1 h2 ⟨o, vs, e, c, d⟩ k => ⟨o, vs, k o e, c, d⟩⟩

def noNames (X : Cx) : St := List.replicate X.N.length none
def endsAs (D : Ends) (i : Nat) : Ends := { nx := fun σ H => D.nx (σ.set i none) H, rt := D.rt, bk := fun σ H => D.bk (σ.set i none) H, ct := fun σ H => D.ct (σ.set i none) H }
def tTryAs (X : Cx) (i : Nat) (Cc : Addr) (tb : List (Addr × Obj) → (Value → Shared → Prop) → XK → TS) (th : Addr → TS) : TS := fun D σ H => ∀ pl W,
  tb pl W (fun cls _ H' => PySem.W.exmOne X.K cls (.ref Cc) = some true ∧ ∀ a, H' a = none → th a (endsAs D i) ((noNames X).set i (some (.ref a))) (upd H' a (excO a cls))) D σ H
def tTry (X : Cx) (Cc : Addr) (tb : List (Addr × Obj) → (Value → Shared → Prop) → XK → TS) (th : Addr → TS) : TS := fun D σ H => ∀ pl W,
  tb pl W (fun cls _ H' => PySem.W.exmOne X.K cls (.ref Cc) = some true ∧ ∀ a, th a D (noNames X) H') D σ H

section
variable {X : Cx} {body suite : List Stmt} {b0 : Stmt} {x n : Str} {np hpos pos : Pos} {Cc : Addr} {i : Nat} {tb : List (Addr × Obj) → (Value → Shared → Prop) → XK → TS} {th : Addr → TS}
theorem lands {pins : List (Addr × Obj)} {σ : St} {H : Hp} {s s' : Shared} {EX : XK} {e : Value} {Q : Flow → Shared → Prop} {hs : List ExceptHandler} (hst : X.stack = X.env :: X.outer) (hfr : X.env.frame = some X.env.locals) (hex : X.ex = []) (I : Inv X pins σ H s)
    (hc : CXO X.prog X.w X.stack H s EX e s')
    (k : ∀ (a C : Addr) (H' : Hp) (B : Heap) (a0 : Value) (s2 : Shared), EX (.ref C) none H' → H' a = none → Inv X pins (noNames X) H' s2 → Heap.FlyingW B X.stack a (.ref C) a0 s2.heap →
      (∀ h3, Heap.FlyingW B X.stack a (.ref C) a0 h3 → s2.heap.UpToSlots h3 → Inv X pins (noNames X) H' { s2 with heap := h3 } ∧ ∃ o, ObjOk X.prog X.w (upd H' a (excO a (.ref C))) h3 a (excO a (.ref C)) ∧ Inv X pins (noNames X) (upd H' a (excO a (.ref C))) { s2 with heap := h3 } ∧ o = a) →
      wpAny (model X.prog X.w) X.A (handleBy (.ref a) X.env hs) Q X.xe s2) :
    wpAny (model X.prog X.w) X.A (noteFrame e X.env) (fun _ s₂ => wpAny (model X.prog X.w) X.A (setFlight e none) (fun _ s₃ => wpAny (model X.prog X.w) X.A (handleBy e X.env hs) Q X.xe s₃) X.xe s₂) X.xe s' := by
  obtain ⟨a, C, H', B, a0, rfl, os, bare, un, hok, fl, c1, c2, hE⟩ := hc
  have ha : H' a = none := by
    cases q : H' a with
    | none => rfl
    | some u =>
      obtain ⟨o', eo⟩ := c2 a u q
      rw [fl.2.1] at eo
      cases eo
  have inv : ∀ (h3 : Heap) (t : Nat), B.StaysIn h3 → s'.heap.UpToSlots h3 → Inv X pins (noNames X) H' { s' with heap := h3 } := fun h3 t st up => by
    have J : Inv X pins σ H' { s' with heap := h3 } := I.call' (s' := { s' with heap := h3 }) (ch := []) os (un_move un c1 fl.1 st (fr_of fl.2.2.1 up)) (hok_move hok c2 fl.1 st) bare (fun b z => absurd z (by simp))
    refine J.weak ?_ fun j v q => ?_
    · unfold noNames
      rw [List.length_replicate]
      exact J.len.symm
    · unfold noNames at q
      rw [List.getElem?_replicate] at q
      split at q <;> cases q
  have young : s.heap.get? a = none := by
    cases q : s.heap.get? a with
    | none => rfl
    | some o =>
      by_cases hb : a ∈ frs X.stack
      · obtain ⟨_, o1, e1, nf⟩ := fl.2.2.1.mem hb
        obtain ⟨oe, vs, e2, _, d2, _⟩ := fl.first
        rw [e1] at e2
        cases e2
        exact absurd d2 (nf vs)
      · obtain ⟨o', eo⟩ := c1 a o q hb
        rw [fl.2.1] at eo
        cases eo
  have y0 : X.s₀.heap.get? a = none := by
    cases q : X.s₀.heap.get? a with
    | none => rfl
    | some o =>
      obtain ⟨o1, q1⟩ := I.base.there a o q (by rw [hex]; simp)
      rw [young] at q1
      cases q1
  have nL : a ≠ X.env.locals := fun z => by
    obtain ⟨m, ⟨o, es, ep, ho, _⟩, _⟩ := I.loc
    rw [← z, young] at ho
    cases ho
  have nC : ∀ x c, X.env.cells.lookup x = some c → c ≠ a := fun x c e z => by
    obtain ⟨v, o, ho, _⟩ := I.cell x c e
    rw [z, young] at ho
    cases ho
  have nP : ∀ p ∈ X.pn ++ pins, p.1 ≠ a := fun p hp z => by
    have := (I.pin p hp).1
    rw [z, young] at this
    cases this
  have fl' := fl
  rw [hst] at fl'
  have hA : X.A.frames = some (X.env :: X.outer) := by rw [← hst]; exact I.ok.frames
  refine wpAny_looks_onW hA hfr fl' fun h4 hh4 up4 => ?_
  refine wpAny_landsW hh4 fun h5 fl5 up5 => ?_
  have fl5' : Heap.FlyingW B X.stack a (.ref C) a0 h5 := by rw [hst]; exact fl5
  refine k a C H' B a0 { s' with heap := h5 } hE ha (inv h5 0 fl5.1 (up4.trans up5)) fl5' fun h6 fl6 up6 => ?_
  have J := inv h6 0 fl6.1 (up4.trans (up5.trans up6))
  obtain ⟨oe, vs, e2, c2', d2, _⟩ := fl6.first
  have new : ObjOk X.prog X.w (upd H' a (excO a (.ref C))) h6 a (excO a (.ref C)) := excO_ok e2 c2' d2
  exact ⟨J, a, new, J.track ha y0 nL nC nP new, rfl⟩

theorem looks_type {M : Model} {h : Heap} {a : Addr} {o : Obj} {c : Value} (e : h.get? a = some o) (q : o.cls = c) : PySem.W.Looks M h (typeOf (.ref a)) c := q ▸ (PySem.W.Looks.ld e).andThen .now

theorem ps_tryAs (hst : X.stack = X.env :: X.outer) (hfr : X.env.frame = some X.env.locals) (hex : X.ex = []) (hN : X.N.Nodup) (hi : X.N[i]? = some n) (hl : X.env.kindOf n = some .local) (hg : Gl X x) (hm : X.mg x = some (.ref Cc))
    (hb : ∀ (pl : List (Addr × Obj)) (W : Value → Shared → Prop) (EX : XK), Passes (CXO X.prog X.w) (X.hold pl W) EX → PSs (X.hold pl W) body (tb pl W EX)) (hh : ∀ a, PSs (X.inExc a) (b0 :: suite) (th a))
    (hf : X.fn n = true ∨ X.env.scope.names.lookup n = some .local := by first | exact .inl rfl | exact .inr rfl) (hd : (x == ("__debug__" : Str)) = false := by decide) :
    PS X (.Try body [.ExceptHandler (some (.Name x np)) (some n) (b0 :: suite) hpos] [] [] pos) (tTryAs X i Cc tb th) := by
  intro pins s σ H D I h
  have pass : Passes (CXO X.prog X.w) (X.hold pins fun e s₁ => wpAny (model X.prog X.w) X.A (noteFrame e X.env) (fun _ s₂ => wpAny (model X.prog X.w) X.A (setFlight e none) (fun _ s₃ => wpAny (model X.prog X.w) X.A (handleBy e X.env [.ExceptHandler (some (.Name x np)) (some n) (b0 :: suite) hpos]) (SP X pins D) X.xe s₃) X.xe s₂) X.xe s₁)
      (fun cls _ H' => PySem.W.exmOne X.K cls (.ref Cc) = some true ∧ ∀ a, H' a = none → th a (endsAs D i) ((noNames X).set i (some (.ref a))) (upd H' a (excO a cls))) := by
    intro pins' σ' H1 s1 e s1' J hc
    refine lands hst hfr hex J.unhold hc fun a C H' B a0 s2 hE ha I2 fl2 more => ?_
    obtain ⟨hmatch, cont⟩ := hE
    refine wpAny_handleBy_cons (codeAny_handlers_test ?_) (by intro q; cases q)
    refine ld_glob (I2.inExc (a := a)) hg hm ?_ hd
    obtain ⟨oe, vs, e2, c2, d2, _⟩ := fl2.first
    refine PySem.W.exm_one I2.kIn (looks_type e2 c2) hmatch _ _ _ _ (fun _ _ q => q) ?_
    refine codeAny_handlers_suite_as ?_
    refine lands_againW fl2 fun h3 fl3 up3 => ?_
    obtain ⟨_, _, new, I3, _⟩ := more h3 fl3 up3
    refine store_ok I3 hN hi (.inl hl) (v := .ref a) rfl (fun s4 I4 => ?_) hf
    refine wpAny_mono (hh a pins s4 _ _ (endsAs D i) (I4.inExc (a := a)) (cont a ha)) (fun fl s5 q5 => ?_) fun _ _ z => z.elim
    have gone : ∀ {σ5 : St} {H5 : Hp} {R : Shared → Prop}, Inv X pins σ5 H5 s5 → (∀ s6, Inv X pins (σ5.set i none) H5 s6 → R s6) → wpAny (model X.prog X.w) X.A (do bindName X.env n .none; unbindBehindTheSuite X.env n hpos) (fun _ s6 => R s6) X.xe s5 := fun {σ5 H5 R} J5 r => by
      obtain ⟨m, hn, lk⟩ := id J5.loc
      refine wpAny_nameGoes_keeps hl hn (by rw [J5.ok.kind]; rfl) fun h' v hn' hs' => r _ (J5.frame_set hn' hs' (fun j y u e1 e2 e3 => ?_) (by rw [List.length_set]; exact J5.len))
      have hj : j ≠ i := fun z => by
        subst z
        have hlt : j < σ5.length := by rw [J5.len]; exact (List.getElem?_eq_some_iff.mp e1).1
        rw [List.getElem?_set_self hlt] at e2
        cases e2
      rw [List.getElem?_set_ne (Ne.symm hj)] at e2
      obtain ⟨u', r', l'⟩ := lk j y u e1 e2 e3
      refine ⟨u', r', ?_⟩
      rcases l' with ⟨k', z⟩ | ⟨k', c, z, zc⟩
      · refine .inl ⟨k', ?_⟩
        have ny : y ≠ n := fun z' => hj (nodup_ix hN e1 (z' ▸ hi))
        simp [ny, z]
      · exact .inr ⟨k', c, z, zc.sameBut hs' (J5.cne y c z)⟩
    cases fl with
    | next => obtain ⟨σ5, H5, J5, q⟩ := q5; exact gone (J5.outExc I3.ok) fun s6 I6 => ⟨_, _, I6, q⟩
    | brk => obtain ⟨σ5, H5, J5, q⟩ := q5; exact gone (J5.outExc I3.ok) fun s6 I6 => ⟨_, _, I6, q⟩
    | cont => obtain ⟨σ5, H5, J5, q⟩ := q5; exact gone (J5.outExc I3.ok) fun s6 I6 => ⟨_, _, I6, q⟩
    | ret u => obtain ⟨v, σ5, H5, J5, rv, q⟩ := q5; exact gone (J5.outExc I3.ok) fun s6 I6 => ⟨v, _, _, I6, rv, q⟩
  refine wpAny_Try_except (wpAny_mono (hb pins _ _ pass [] s σ H D I.hold (h _ _)) (fun fl s1 q => ?_) fun _ _ z => z)
  cases fl with
  | next => obtain ⟨σ1, H1, J, q⟩ := q; exact wpAny_execs_nil ⟨σ1, H1, J.unhold, q⟩
  | brk => obtain ⟨σ1, H1, J, q⟩ := q; exact ⟨σ1, H1, J.unhold, q⟩
  | cont => obtain ⟨σ1, H1, J, q⟩ := q; exact ⟨σ1, H1, J.unhold, q⟩
  | ret u => obtain ⟨v, σ1, H1, J, rv, q⟩ := q; exact ⟨v, σ1, H1, J.unhold, rv, q⟩

theorem ps_try (hst : X.stack = X.env :: X.outer) (hfr : X.env.frame = some X.env.locals) (hex : X.ex = []) (hg : Gl X x) (hm : X.mg x = some (.ref Cc))
    (hb : ∀ (pl : List (Addr × Obj)) (W : Value → Shared → Prop) (EX : XK), Passes (CXO X.prog X.w) (X.hold pl W) EX → PSs (X.hold pl W) body (tb pl W EX)) (hh : ∀ a, PSs (X.inExc a) (b0 :: suite) (th a))
    (hd : (x == ("__debug__" : Str)) = false := by decide) :
    PS X (.Try body [.ExceptHandler (some (.Name x np)) none (b0 :: suite) hpos] [] [] pos) (tTry X Cc tb th) := by
  intro pins s σ H D I h
  have pass : Passes (CXO X.prog X.w) (X.hold pins fun e s₁ => wpAny (model X.prog X.w) X.A (noteFrame e X.env) (fun _ s₂ => wpAny (model X.prog X.w) X.A (setFlight e none) (fun _ s₃ => wpAny (model X.prog X.w) X.A (handleBy e X.env [.ExceptHandler (some (.Name x np)) none (b0 :: suite) hpos]) (SP X pins D) X.xe s₃) X.xe s₂) X.xe s₁)
      (fun cls _ H' => PySem.W.exmOne X.K cls (.ref Cc) = some true ∧ ∀ a, th a D (noNames X) H') := by
    intro pins' σ' H1 s1 e s1' J hc
    refine lands hst hfr hex J.unhold hc fun a C H' B a0 s2 hE ha I2 fl2 more => ?_
    obtain ⟨hmatch, cont⟩ := hE
    refine wpAny_handleBy_cons (codeAny_handlers_test ?_) (by intro q; cases q)
    refine ld_glob (I2.inExc (a := a)) hg hm ?_ hd
    obtain ⟨oe, vs, e2, c2, d2, _⟩ := fl2.first
    refine PySem.W.exm_one I2.kIn (looks_type e2 c2) hmatch _ _ _ _ (fun _ _ q => q) ?_
    refine codeAny_handlers_suite ?_
    refine lands_againW fl2 fun h3 fl3 up3 => ?_
    obtain ⟨I3, _⟩ := more h3 fl3 up3
    refine wpAny_mono (hh a pins _ _ _ D (I3.inExc (a := a)) (cont a)) (fun fl s5 q5 => ?_) fun _ _ z => z.elim
    cases fl with
    | next => obtain ⟨σ5, H5, J5, q⟩ := q5; exact ⟨_, _, J5.outExc I3.ok, q⟩
    | brk => obtain ⟨σ5, H5, J5, q⟩ := q5; exact ⟨_, _, J5.outExc I3.ok, q⟩
    | cont => obtain ⟨σ5, H5, J5, q⟩ := q5; exact ⟨_, _, J5.outExc I3.ok, q⟩
    | ret u => obtain ⟨v, σ5, H5, J5, rv, q⟩ := q5; exact ⟨v, _, _, J5.outExc I3.ok, rv, q⟩
  refine wpAny_Try_except (wpAny_mono (hb pins _ _ pass [] s σ H D I.hold (h _ _)) (fun fl s1 q => ?_) fun _ _ z => z)
  cases fl with
  | next => obtain ⟨σ1, H1, J, q⟩ := q; exact wpAny_execs_nil ⟨σ1, H1, J.unhold, q⟩
  | brk => obtain ⟨σ1, H1, J, q⟩ := q; exact ⟨σ1, H1, J.unhold, q⟩
  | cont => obtain ⟨σ1, H1, J, q⟩ := q; exact ⟨σ1, H1, J.unhold, q⟩
  | ret u => obtain ⟨v, σ1, H1, J, rv, q⟩ := q; exact ⟨v, σ1, H1, J.unhold, rv, q⟩
end
end L2

namespace L2
open PySem PySem.Spec PyProof.Rows
section
variable {X : Cx}
def clsV : V → Option Value
  | .ty n => some (.type n)
  | .ref C => some (.ref C)
  | _ => none
theorem clsV_is {c : V} {cv u : Value} (h : clsV c = some cv) (r : RelV c u) : u = cv := by
  cases c <;> first | (cases h; exact r) | cases h

def rIsi (K : PySem.W.Frag) : List V → Hp → VK → Prop := fun xs H Q => ∃ x c cv t b, xs = [x, c] ∧ clsV c = some cv ∧ TyOf K H x t ∧ PySem.W.kitOne K t cv = some b ∧ Q (.bl b) H
theorem call_isi : CallR X (.builtin "isinstance") (rIsi X.K) := by
  intro pins s σ H xs us Q I rv h
  obtain ⟨x, c, cv, t, b, rfl, hc, ty, hk, q⟩ := h
  obtain ⟨u, w', rfl, r1, r2⟩ := vals2 rv
  cases clsV_is hc r2
  exact isinst_ok I r1 ty hk fun tk => ⟨.bl b, H, I.tok tk, rfl, q⟩

def rAll (K : PySem.W.Frag) : List V → Hp → VK → Prop := fun xs H Q => ∃ (a : Addr) (bs : List Bool), xs = [.ref a] ∧ SqL K H a (bs.map V.bl) ∧ Q (.bl (bs.all id)) H
theorem bools_of {bs : List Bool} : ∀ {us : List Value}, Vals (bs.map V.bl) us → LSm.BoolsAre us bs := by
  induction bs with
  | nil => intro us h; cases h; exact .nil
  | cons b r ih =>
    intro us h
    cases h with
    | cons q t => cases q; exact .cons b (ih t)
theorem bools_at : ∀ {us : List Value} {bs : List Bool}, Vals (bs.map V.bl) us → ∀ (i : Nat) (v : Value), us[i]? = some v → ∃ b, bs[i]? = some b ∧ v = .bool b := fun {us bs} r i v e => (bools_of r).get i v e
theorem call_all (hc : X.calm = true) : CallR X (.builtin "all") (rAll X.K) := by
  intro pins s σ H xs us Q I rv h
  obtain ⟨a, bs, rfl, hS, q⟩ := h
  obtain ⟨u, rfl, r1⟩ := vals1 rv
  cases r1
  obtain ⟨its, r, p, hz⟩ := I.list hS
  have lt : a < s.heap.objs.size := by
    obtain ⟨_, e, _⟩ := p.isList
    exact Heap.lt_size e
  have ln : its.toArray.size = bs.length := by
    rw [List.size_toArray, ← r.length, List.length_map]
  refine call_all_walk (wpAny_pyIter_list p.isList ⟨s.heap.objs.size, [s.heap.objs.size, a], [s.heap.objs.size], its.toArray.size, _, _, fun i => (bs[i]?).getD true, rfl,
    Walks.list (A := X.A.in1) (I.ok.hd hc) _ a (Nat.ne_of_lt lt) its.toArray, ⟨⟨_, Heap.get?_push_size _ rfl, rfl, rfl⟩, p.isList.push _⟩, fun i v s' Q' E' hP hQ => ?_, fun h' tk hk => ?_⟩)
  · obtain ⟨b, e, rfl⟩ := bools_at r i v (by simpa using hP)
    simp only [e, Option.getD_some] at hQ
    exact wpAny_truthy_bool hQ
  · refine ⟨.bl (bs.all id), H, I.kept (LSm.kept_iter hk), ?_, q⟩
    rw [ln, LSm.range_all]
    rfl

def rSum (K : PySem.W.Frag) : List V → Hp → VK → Prop := fun xs H Q => ∃ (a : Addr) (ns : List Int), xs = [.ref a] ∧ SqL K H a (ns.map V.int) ∧ Q (.int ns.sum) H
theorem call_sum (hc : X.calm = true) : CallR X (.builtin "sum") (rSum X.K) := by
  intro pins s σ H xs us Q I rv h
  obtain ⟨a, ns, rfl, hS, q⟩ := h
  obtain ⟨u, rfl, r1⟩ := vals1 rv
  cases r1
  obtain ⟨its, r, p, hz⟩ := I.list hS
  have ia := intsAre_of r
  obtain ⟨ws, ew⟩ := ia.allInts.items
  have hl : s.heap.IsList a (intItems ws) := ew ▸ p.isList
  refine sum_intListG (I.ok.hd hc) hl fun h' tk t' hk => ⟨.int ns.sum, H, I.kept hk, ⟨t', ?_⟩, q⟩
  have e1 : ns = ws.toList.map (·.1) := by
    rw [← nums_intItems, ← ew]
    exact ia.numsOf.symm
  rw [preSum_eq, e1, List.take_of_length_le (by simp)]

def rEqL (K : PySem.W.Frag) : R2 := fun x y H Q => ∃ (a b : Addr) (ns ms : List Int), x = .ref a ∧ y = .ref b ∧ SqL K H a (ns.map V.int) ∧ SqL K H b (ms.map V.int) ∧ Q (.bl (decide (ns = ms))) H
def rNeL (K : PySem.W.Frag) : R2 := fun x y H Q => ∃ (a b : Addr) (ns ms : List Int), x = .ref a ∧ y = .ref b ∧ SqL K H a (ns.map V.int) ∧ SqL K H b (ms.map V.int) ∧ Q (.bl (!decide (ns = ms))) H
theorem op_eqL (hu : X.A.units + 64 < cLine) : OpR X (compareOp .Eq) (rEqL X.K) := by
  intro pins s σ H x y v u Q I r1 r2 h
  obtain ⟨a, b, ns, ms, rfl, rfl, h1, h2, q⟩ := h
  cases r1
  cases r2
  obtain ⟨is1, v1, p1, _⟩ := I.list h1
  obtain ⟨is2, v2, p2, _⟩ := I.list h2
  exact PySem.W.ke_eq_ints p1.isList p2.isList (intsAre_of v1) (intsAre_of v2) hu ⟨.bl (decide (ns = ms)), H, I, rfl, q⟩
theorem op_neL (hu : X.A.units + 64 < cLine) : OpR X (compareOp .NotEq) (rNeL X.K) := by
  intro pins s σ H x y v u Q I r1 r2 h
  obtain ⟨a, b, ns, ms, rfl, rfl, h1, h2, q⟩ := h
  cases r1
  cases r2
  obtain ⟨is1, v1, p1, _⟩ := I.list h1
  obtain ⟨is2, v2, p2, _⟩ := I.list h2
  exact PySem.W.ke_ne_ints p1.isList p2.isList (intsAre_of v1) (intsAre_of v2) hu ⟨.bl (!decide (ns = ms)), H, I, rfl, q⟩
end
end L2

namespace L2
open PySem PySem.Spec PyProof.Rows PySem.W PySem.Calls
open PySem.Builtin PySem.Builtin.ObjectAttr PySem.Builtin.Getset_descriptor

structure ExcLook (K : Frag) (C : Addr) : Prop where
  cls : (clsIn K C).isSome = true
  ga : findIn K (.ref C) "__getattribute__" = some (some (.builtin "BaseException.__getattribute__"))
  gh : findIn K (.ref C) "__getattr__" = some none
  cl : findIn K (.ref C) "__class__" = some (some (.builtin "object.__class__"))
  gt : specialIn K (.builtin "object.__class__") "__get__" = some (some (.builtin "getset_descriptor.__get__"))
  tk : takesIn K (.builtin "object.__class__") = some true
  mb : mroIn K C (.type "BaseException") = some true
  mo : mroIn K C (.type "object") = some true

section
variable {prog : Program} {w : World} {A : Around} {E : Value → Shared → Prop} {s : Shared} {K : Frag} {a C : Addr} {o : Obj} {vs : Array Value}

theorem exc_class_get {R : Result → Shared → Prop} {tp : Value} (L : ExcLook K C) (X : K.In s.heap) (hx : s.heap.get? a = some o) (hc : o.cls = .ref C) (h : R (.ok (.ret (.ref C))) s) :
    codeAny (model prog w) A (.call (.builtin "getset_descriptor.__get__") ⟨[.builtin "object.__class__", .ref a, tp], []⟩) R s := by
  obtain ⟨hp, gs, dw, tk, os⟩ := s
  have ty := looks_type (M := model prog w) hx hc
  have ob := looks_mroIn (M := model prog w) X L.mo
  refine codeAny_call_builtin KF.slot_gs.plain KF.entry_gs (KF.slot_gs.check _ _ _ _ _ _ _ _ KF.type_class (KF.args_gs _ _ _) ?look)
  case look =>
    unfold Builtin.«getset_descriptor.__get__» descrGet; rw [dga_obj]
    refine wpAny_bind (wpAny_pure ?go)
    case go =>
      unfold descrGetter descrCheckInstance descrNameAndClass isInstance; simp only [KF.owner_class]
      repeat lk
      refine ⟨Code.quiet_builtin _ (by decide +kernel), codeAny_builtin KF.entry_class ?say⟩
      case say =>
        unfold Builtin.«object.__class__» shownTypeOf; repeat lk
        exact h

theorem exc_find {M : Model} {h : Heap} (L : ExcLook K C) (X : K.In h) : Looks M h (find (.ref a) (.ref C) "__class__") (.bind (.builtin "getset_descriptor.__get__") (.builtin "object.__class__")) := by
  intro A Q E s k q
  have l1 := (looks_findIn (M := M) X L.cl).keeps k
  have l2 : Looks M s.heap (getOf (some (.builtin "object.__class__"))) (some (.builtin "getset_descriptor.__get__")) := (looks_specialIn (M := M) X L.gt).keeps k
  have l3 := (looks_takesIn (M := M) X L.tk).keeps k
  unfold find
  refine wpAny_bind (l1.here (wpAny_bind (l2.here (wpAny_bind ?_))))
  show wpAny M A (do if ← takesStores (.builtin "object.__class__") then pure (some (Value.builtin "getset_descriptor.__get__", Value.builtin "object.__class__")) else pure none) _ E s
  refine wpAny_bind (l3.here ?_)
  rw [if_pos rfl]
  exact wpAny_pure (wpAny_bind (wpAny_rule (wpAny_pure q)))

theorem exc_check {M : Model} {nm : Value} {Q : Unit → Shared → Prop} (L : ExcLook K C) (X : K.In s.heap) (hx : s.heap.get? a = some o) (hc : o.cls = .ref C) (q : Q () s) : wpAny M A (checkBuiltinCall "BaseException.__getattribute__" ⟨[.ref a, nm], []⟩) Q E s := by
  obtain ⟨hp, gs, dw, tk, os⟩ := s
  have ty := looks_type (M := M) hx hc
  have sb := looks_mroIn (M := M) X L.mb
  have e1 : builtinKind "BaseException.__getattribute__" = some .slot := by decide +kernel
  have e2 : splitId "BaseException.__getattribute__" = some ("BaseException", "__getattribute__") := by decide +kernel
  have e3 := F.args_bexc_ga (.ref a) nm
  simp only [checkBuiltinCall, e1, e2]
  refine wpAny_bind ?_
  unfold isInstance
  repeat lk
  exact q

theorem exc_attr {Q : Option Value → Shared → Prop} (L : ExcLook K C) (X : K.In s.heap) (hx : s.heap.get? a = some o) (hc : o.cls = .ref C) (h : Q (some (.ref C)) { s with toks := s.toks + 1 }) :
    wpAny (model prog w) A (getAttr? (.ref a) "__class__") Q E s := by
  obtain ⟨hp, gs, dw, tk, os⟩ := s
  have ty := looks_type (M := model prog w) hx hc
  have l1 := looks_findIn (M := model prog w) X L.ga
  have l2 := looks_findIn (M := model prog w) X L.gh
  have l3 := looks_mroIn (M := model prog w) X L.mb
  have l4 := exc_find (M := model prog w) (a := a) L X
  unfold getAttr? getAttrBy? getAttrBy
  refine wpAny_bind (wpAny_mkText (wpAny_bind (wpAny_attempt (wpAny_holding (wpAny_bind (ty.at (wpAny_bind (l1.at ?_))))))))
  show wpAny _ _ (getAttrByItsOwn _ _ _ _ _ _) _ _ _
  unfold getAttrByItsOwn hookBefore
  rw [if_pos (show onTheHeap (.ref C) = true from rfl)]
  refine wpAny_bind (l2.at (wpAny_bind (wpAny_attempt (wpAny_holding ?_))))
  show wpAny _ _ (boundAndCalled _ _ _) _ _ _
  unfold boundAndCalled
  refine wpAny_bind (wpAny_of_eq (PySem.F.attrBase_ValueError.ga.bind (.ref a)) ?_)
  refine wpAny_call (codeAny_call_builtin PySem.F.attrBase_ValueError.ga.plain F.entry_bexc_ga (exc_check L X hx hc ?_))
  unfold Builtin.«object.__getattribute__»
  refine wpAny_bind (wpAny_pure ?_)
  refine wpAny_bind (wpAny_pure ?_)
  refine wpAny_bind (ty.at (wpAny_bind (l4.at ?_)))
  show wpAny _ _ (bindTo _ _ _ _) _ _ _
  unfold bindTo
  refine wpAny_bind (wpAny_holding (wpAny_call (exc_class_get L X hx hc ?_)))
  exact wpAny_pure (handed_on (v := .ref C) rfl (wpAny_pure h))

def ExcAt (a C : Addr) (h : Heap) : Prop := ∃ o vs, h.get? a = some o ∧ o.cls = .ref C ∧ o.data = .fields vs
theorem kitx_exc (L : ExcLook K C) : KitX K (.ref a) (.ref C) (ExcAt a C) where
  ty := fun M h _ ⟨o, vs, e, c, _⟩ => looks_type e c
  it := fun M h X _ => by
    have z := L.cls
    unfold clsIn at z
    split at z
    · rename_i look
      intro A' Q' E' s' k q
      unfold isType loadHead
      exact wpAny_bind (wpAny_loadPart (k _ _ (X _ _ look)) (wpAny_pure q))
    · exact Bool.noConfusion z
  ne := fun h tp dd its n sl X htp => by
    refine Bool.eq_false_iff.mpr fun q => ?_
    have e : C = tp := Value.ref.inj (beq_iff_eq.mp q)
    subst e
    have z := L.cls
    unfold clsIn at z
    split at z
    · rename_i look
      have y := (X _ _ look).symm.trans htp
      cases y
    · exact Bool.noConfusion z
  ca := fun X ⟨o, vs, e, c, _⟩ k => exc_attr L X e c k
end
section
variable {X : Cx}
def rIsiX (K : Frag) : List V → Hp → VK → Prop := fun xs H Q => ∃ a C c cv b, xs = [.ref a, c] ∧ clsV c = some cv ∧ H a = some (excO a (.ref C)) ∧ ExcLook K C ∧ kitOne K (.ref C) cv = some b ∧ Q (.bl b) H
theorem call_isiX : CallR X (.builtin "isinstance") (rIsiX X.K) := by
  intro pins s σ H xs us Q I rv h
  obtain ⟨a, C, c, cv, b, rfl, hc, ha, L, hk, q⟩ := h
  obtain ⟨u, w', rfl, r1, r2⟩ := vals2 rv
  cases clsV_is hc r2
  cases r1
  obtain ⟨p, _, _⟩ := (show ObjOk X.prog X.w H s.heap a (excO a (.ref C)) from I.hok a _ ha)
  exact kia_one (kitx_exc L) I.kIn p hk (fun z => nomatch z) fun tk => ⟨.bl b, H, I.tok tk, rfl, q⟩

theorem canB : ∀ bs : List Bool, PyData.canLayAll0 (bs.map PyData.bool) = true
  | [] => rfl
  | _ :: r => by simp [PyData.canLayAll0, PyData.canLay0, canB r]
theorem depB : ∀ bs : List Bool, PyData.depthAll (bs.map PyData.bool) = 0
  | [] => rfl
  | _ :: r => by simp [PyData.depthAll, PyData.depth, depB r]
theorem shapeB (bs : List Bool) : SeqAt.shaped (.list (bs.map PyData.bool)) = true := by
  simp [SeqAt.shaped, PyData.canLay0, PyData.depth, canB, depB]
theorem sameB : ∀ bs cs : List Bool, PySem.Spec.sameAll (bs.map PyData.bool) (cs.map PyData.bool) = decide (bs = cs)
  | [], [] => by simp [PySem.Spec.sameAll]
  | [], _ :: _ => by simp [PySem.Spec.sameAll]
  | _ :: _, [] => by simp [PySem.Spec.sameAll]
  | a :: r, b :: t => by
    simp only [List.map_cons, PySem.Spec.sameAll, PySem.Spec.same, sameB r t]
    cases a <;> cases b <;> by_cases h : r = t <;> simp [h]
theorem carB : ∀ {bs : List Bool} {us : List Value}, Vals (bs.map V.bl) us → CarriedAll us (bs.map PyData.bool)
  | [], _, .nil => .nil
  | _ :: _, _, .cons r t => by cases r; exact .cons (.bool _) (carB t)
def rEqB (K : Frag) : R2 := fun x y H Q => ∃ (a b : Addr) (ns ms : List Bool), x = .ref a ∧ y = .ref b ∧ SqL K H a (ns.map V.bl) ∧ SqL K H b (ms.map V.bl) ∧ Q (.bl (decide (ns = ms))) H
theorem op_eqB (hu : X.A.units + 64 < cLine) : OpR X (compareOp .Eq) (rEqB X.K) := by
  intro pins s σ H x y v u Q I r1 r2 h
  obtain ⟨a, b, ns, ms, rfl, rfl, h1, h2, q⟩ := h
  cases r1
  cases r2
  obtain ⟨is1, v1, p1, _⟩ := I.list h1
  obtain ⟨is2, v2, p2, _⟩ := I.list h2
  refine eq_dataH_same (reads_newData p1.isList (carB v1)) (reads_newData p2.isList (carB v2)) (shapeB _) (shapeB _) hu (SeqAt.noMix_of_shape (.list .bool) rfl _ _ (list_map_has fun _ => rfl) (list_map_has fun _ => rfl)) ⟨.bl (decide (ns = ms)), H, I, ?_, q⟩
  show Value.bool (PySem.Spec.sameAll _ _) = _
  rw [sameB]
end
end L2

namespace L2
open PySem PySem.Spec PyProof.Rows

abbrev Cx.comp (X : Cx) (scope : Scope) (cl : List (Str × Addr)) (C : Addr) (N : List Str) (s : Shared) (H : Hp) (fp : List Addr) : Cx :=
  { X with N := N, s₀ := s, H₀ := H, env := compEnvC scope cl C X.env, outer := X.stack, ex := fp, fn := fun _ => false, pn := [], xe := fun _ _ => False }

def PTs (X : Cx) (ifs : List Expr) (t : TT) : Prop :=
  ∀ (pins : List (Addr × Obj)) (s : Shared) (σ : St) (H : Hp) (Q : Bool → Hp → Prop), Inv X pins σ H s → t σ H Q →
    wpAny (model X.prog X.w) X.A (forIn ifs true fun c r => if r = true then do let ok ← isTrue c X.env (eval c X.env); pure (ForInStep.yield ok) else pure (ForInStep.yield r)) (TP X pins σ Q) X.xe s
def tYes : TT := fun _ H Q => Q true H
theorem pts_nil {X : Cx} : PTs X [] tYes := fun _ _ _ H _ I h => wpAny_tests_nil ⟨H, I, h⟩
theorem pts_one {X : Cx} {c : Expr} {t : TT} (h : PT X c t) : PTs X [c] t := fun pins s σ H Q I q => wpAny_tests_one (h pins s σ H Q I q)

def compSt (σ : St) (own : Nat) (fr : List Nat) : St := List.replicate own none ++ fr.map fun i => (σ[i]?).join

theorem relabel_cell {env : Env} (hk : env.scope.kind = .function) : ∀ {names : List (Str × NameKind)} {x : Str}, names.lookup x = some .free → env.kindOf x = some .cell →
    (names.map fun (n, k) => if (k == NameKind.free && env.scope.kind == .function && env.kindOf n == some .cell) then (n, NameKind.cell) else (n, k)).lookup x = some .cell
  | [], _, h, _ => by simp at h
  | (n, k) :: r, x, h, hc => by
    have ih := @relabel_cell env hk r x
    show List.lookup x ((if (k == NameKind.free && env.scope.kind == .function && env.kindOf n == some .cell) = true then (n, NameKind.cell) else (n, k)) :: _) = _
    cases hx : x == n with
    | true =>
      have e : x = n := beq_iff_eq.mp hx
      subst e
      simp only [List.lookup_cons, hx] at h
      cases h
      simp [List.lookup_cons, hk, hc]
    | false =>
      simp only [List.lookup_cons, hx] at h
      have q := ih h hc
      split <;> (simp only [List.lookup_cons, hx]; exact q)

theorem relabel_free {env : Env} : ∀ {names : List (Str × NameKind)} {x : Str} {k : NameKind}, (∀ y ∈ names, y.2 ≠ .cell) →
    (names.map fun (n, k) => if (k == NameKind.free && env.scope.kind == .function && env.kindOf n == some .cell) then (n, NameKind.cell) else (n, k)).lookup x = some k → (k = .cell ∨ k = .free) → (x, NameKind.free) ∈ names
  | [], _, _, _, h, _ => by simp at h
  | (n, k') :: r, x, k, hc, h, hk => by
    have ih := @relabel_free env r x k fun y hy => hc y (List.mem_cons_of_mem _ hy)
    have h' : List.lookup x ((if (k' == NameKind.free && env.scope.kind == .function && env.kindOf n == some .cell) = true then (n, NameKind.cell) else (n, k')) :: (r.map fun (n, k) => if (k == NameKind.free && env.scope.kind == .function && env.kindOf n == some .cell) then (n, NameKind.cell) else (n, k))) = some k := h
    cases hx : x == n with
    | true =>
      have e : x = n := beq_iff_eq.mp hx
      subst e
      by_cases c : (k' == NameKind.free && env.scope.kind == .function && env.kindOf x == some .cell) = true
      · have kf : k' = .free := by
          rw [Bool.and_eq_true, Bool.and_eq_true] at c
          exact beq_iff_eq.mp c.1.1
        rw [kf]
        exact List.mem_cons_self
      · rw [if_neg c] at h'
        simp only [List.lookup_cons, hx] at h'
        cases h'
        rcases hk with hk | hk
        · exact absurd hk (hc (x, k') List.mem_cons_self)
        · rw [hk]
          exact List.mem_cons_self
    | false =>
      refine List.mem_cons_of_mem _ (ih ?_ hk)
      split at h' <;> (simp only [List.lookup_cons, hx] at h'; exact h')

section
variable {prog : Program} {w : World} {A : Around} {R : Result → Shared → Prop} {s : Shared}
theorem comp_loop {elt target iter : Expr} {ifs : List Expr} {scope : Scope} {pos : Pos} {it acc : Value} {env : Env} (I : Nat → Shared → Prop)
    (turn : ∀ n s, I n s → wpAny (model prog w) A (pyNext it) (fun r s1 => match r with
      | none => R (.ok .next) s1
      | some v => wpAny (model prog w) A (letOwnedTupleGo target it v) (fun _ s2 => wpAny (model prog w) A (assign target env v) (fun _ s3 =>
          wpAny (model prog w) A (forIn ifs true fun c r => if r = true then do let ok ← isTrue c env (eval c env); pure (ForInStep.yield ok) else pure (ForInStep.yield r)) (fun ok s4 =>
            if ok = true then wpAny (model prog w) A (eval elt env) (fun x s5 => wpAny (model prog w) A (call (.builtin "list.append") [acc, x]) (fun _ s6 => ∃ m, m < n ∧ I m s6) (fun _ _ => False) s5) (fun _ _ => False) s4
            else ∃ m, m < n ∧ I m s4) (fun _ _ => False) s3) (fun _ _ => False) s2) (fun _ _ => False) s1) (fun _ _ => False) s)
    (n : Nat) (h : I n s) : codeAny (model prog w) A (.compLoop (.ListComp elt [⟨target, iter, ifs, 0⟩] scope pos) 0 it acc env) R s := by
  refine codeAny_loop rfl I (fun n s hI => ?_) n h
  show wpAny _ A ((compTurn (.ListComp elt [⟨target, iter, ifs, 0⟩] scope pos) 0 it acc env).onRaise _) _ _ s
  refine wpAny_noted ?_
  rw [compTurn_list]
  have no : ∀ {α : Prop}, False → α := fun z => z.elim
  refine wpAny_bind (wpAny_standAt (wpAny_bind (wpAny_mono (turn n s hI) (fun r s1 h1 => ?_) fun _ _ z => no z)))
  cases r with
  | none => exact wpAny_pure h1
  | some v =>
    refine wpAny_bind (wpAny_mono h1 (fun _ s2 h2 => ?_) fun _ _ z => no z)
    refine wpAny_bind (wpAny_mono h2 (fun _ s3 h3 => ?_) fun _ _ z => no z)
    refine wpAny_bind (wpAny_mono h3 (fun ok s4 h4 => ?_) fun _ _ z => no z)
    cases ok with
    | false => exact wpAny_pure ⟨rfl, h4⟩
    | true =>
      refine wpAny_bind (wpAny_bind (wpAny_mono h4 (fun x s5 h5 => ?_) fun _ _ z => no z))
      exact wpAny_bind (wpAny_mono h5 (fun _ s6 h6 => wpAny_pure (wpAny_pure ⟨rfl, h6⟩)) fun _ _ z => no z)
end


def compRun (J : It) (g : TG) (tt : TT) (te : TE) (own : Nat) (fr : List Nat) (σ : St) (H1 : Hp) (D : Addr) (Q : VK) : Prop :=
  ∃ W : Nat → Nat → St → Hp → Prop, (∃ m, W 0 m (compSt σ own fr) (upd H1 D (.lst []))) ∧ ∀ i m τ H, W i m τ H →
    (J.stop i H ∧ Q (.ref D) H) ∨ (J.go i H ∧ ∀ x H', J.yld i H x H' → g x τ H' fun τ2 H2 => tt τ2 H2 fun ok H3 =>
      if ok = true then te τ2 H3 fun y H4 => ∃ ys, H4 D = some (.lst ys) ∧ ys.length < sizeLine ∧ ∃ m', m' < m ∧ W (i + 1) m' τ2 (upd H4 D (.lst (ys ++ [y])))
      else ∃ m', m' < m ∧ W (i + 1) m' τ2 H3)
def tComp (wi : TI) (g : TG) (tt : TT) (te : TE) (own : Nat) (fr : List Nat) : TE := fun σ H Q => wi σ H fun J H1 => ∀ D, H1 D = none → compRun J g tt te own fr σ H1 D Q

structure CompScope (X : Cx) (scope : Scope) (cl : List (Str × Addr)) (own fn : List Str) (fr : List Nat) : Prop where
  clos : closureFor scope X.env = pure cl
  cell : ∀ y ∈ scope.names, y.2 ≠ .cell
  kind : scope.kind = .function
  names : ∀ y ∈ scope.names, y.2 = .local → scope.names.lookup y.1 = some .local
  cls : ∀ p ∈ cl, X.env.cells.lookup p.1 = some p.2
  hasF : ∀ y ∈ scope.names, y.2 = .free → y.1 ∈ fn
  hasC : ∀ x ∈ fn, ∃ c, cl.lookup x = some c
  outL : fr.map (fun i => X.N[i]?) = fn.map some
  fre : ∀ x ∈ fn, X.env.kindOf x = some .cell ∧ scope.names.lookup x = some .free
theorem CompScope.has {X : Cx} {scope : Scope} {cl : List (Str × Addr)} {own fn : List Str} {fr : List Nat} (S : CompScope X scope cl own fn fr) : ∀ y ∈ scope.names, y.2 = .free → ∃ c, cl.lookup y.1 = some c := fun y hy e => S.hasC _ (S.hasF y hy e)
theorem CompScope.len {X : Cx} {scope : Scope} {cl : List (Str × Addr)} {own fn : List Str} {fr : List Nat} (S : CompScope X scope cl own fn fr) : fr.length = fn.length := by
  have e := congrArg List.length S.outL
  simpa using e
theorem CompScope.out {X : Cx} {scope : Scope} {cl : List (Str × Addr)} {own fn : List Str} {fr : List Nat} (S : CompScope X scope cl own fn fr) (k i : Nat) (h : fr[k]? = some i) : X.N[i]? = fn[k]? := by
  have e := congrArg (fun l => l[k]?) S.outL
  simp only [List.getElem?_map, h, Option.map_some] at e
  cases q : fn[k]? with
  | none => rw [q] at e; simp at e
  | some x => rw [q] at e; simpa using e

theorem lookup_sub {β : Type} {a b : List (Str × β)} (h : ∀ p ∈ a, b.lookup p.1 = some p.2) : ∀ x c, a.lookup x = some c → b.lookup x = some c := fun x c e => h (x, c) (PySem.mem_of_lookup e)

section
variable {X : Cx} {scope : Scope} {cl : List (Str × Addr)} {own fn : List Str} {fr : List Nat} {pins : List (Addr × Obj)} {σ : St} {H : Hp} {s : Shared} {fp : List Addr} {h4 : Heap} {tk : Nat} {J : It} {it : Addr} {tn : Nat → Heap → Prop} {tg : Expr}
theorem comp_ok (S : CompScope X scope cl own fn fr) (I : Inv X pins σ H s) (ff : ∀ b ∈ fp, FpOk X pins H b) (fo : ∀ b ∈ fp, ∃ o, s.heap.get? b = some o) {C : Addr} (hC : s.heap.objs.size ≤ C) :
    (X.comp scope cl C (own ++ fn) s H fp).Ok where
  mod := I.ok.mod
  kind := S.kind
  glob := I.ok.glob
  blt := I.ok.blt
  above := hC
  inj := fun x y c e1 e2 => I.ok.inj x y c (lookup_sub S.cls x c e1) (lookup_sub S.cls y c e2)
  has := fun x hx => by
    have m : (x, NameKind.free) ∈ scope.names := hx.elim (fun z => relabel_free S.cell z (.inl rfl)) fun z => relabel_free S.cell z (.inr rfl)
    exact S.has _ m rfl
  cab := fun x c z => Bool.noConfusion z
  hd := I.ok.hd
  frames := I.ok.frames
  stk := .inl rfl
  exf := fun b hb => by
    obtain ⟨o, eo⟩ := fo b hb
    refine ⟨Nat.ne_of_lt (Nat.lt_of_lt_of_le (Heap.lt_size eo) hC), fun x c e => (ff b hb).2.2.2.2.1 x c (lookup_sub S.cls x c e)⟩
  bs := I.bs
  bsz := Nat.le_trans I.ok.bsz I.sz
  noex := fun b o e hb => by
    rcases (ff b hb).2.2.2.1 with z | z
    · exact I.ok.noex b o e z
    · exact absurd (Nat.lt_of_lt_of_le (Heap.lt_size (I.ok.bs b o e).1) z) (Nat.lt_irrefl _)
  exfs := fun b hb hz => by
    obtain ⟨_, f1, f2, _⟩ := ff b hb
    rcases List.mem_cons.mp (I.stkSub b hz) with e | e
    · exact f1 e
    · exact f2 e
  funs := I.stack
  frf := I.stkFree

theorem comp_start (S : CompScope X scope cl own fn fr) (I : Inv X pins σ H s) (ff : ∀ b ∈ fp, FpOk X pins H b) (fo : ∀ b ∈ fp, ∃ o, s.heap.get? b = some o) (hlen : σ.length = X.N.length)
    (ns : h4.Ns (s.heap.objs.size + 1) fun _ => none) (old : ∀ b o, s.heap.get? b = some o → h4.get? b = some o) {n : Nat} (acc : h4.get? s.heap.objs.size = some { cls := .type "list", data := .seq ([] : List Value).toArray n }) :
    Inv (X.comp scope cl (s.heap.objs.size + 1) (own ++ fn) s H fp) [] (compSt σ own.length fr) (upd H s.heap.objs.size (.lst [])) { s with heap := h4, toks := tk } := by
  have ok := comp_ok S I ff fo (Nat.le_succ s.heap.objs.size)
  have new : ObjOk X.prog X.w (upd H s.heap.objs.size (.lst [])) h4 s.heap.objs.size (.lst []) := ⟨Nat.zero_le _, [], n, .nil, acc⟩
  refine ⟨ok, rfl, I.bare, Un.laid old (Nat.le_refl _) (I.hok.fresh (Nat.le_refl _)), ⟨_, ns, fun j x v e1 e2 e3 => ?_⟩, fun x c e => ?_, ?_, fun x c e => ?_, fun p hp => absurd (show p ∈ ([] : List (Addr × Obj)) from hp) (by simp), I.hok.laid old (Nat.le_refl _) new, ?_⟩
  · have hj : own.length ≤ j := by
      false_or_by_contra
      rename_i z
      unfold compSt at e2
      rw [List.getElem?_append_left (by simpa using z), List.getElem?_replicate] at e2
      split at e2 <;> cases e2
    have e2' : (fr.map fun i => (σ[i]?).join)[j - own.length]? = some (some v) := by
      unfold compSt at e2
      rw [List.getElem?_append_right (by simpa using hj)] at e2
      simpa using e2
    have e1' : fn[j - own.length]? = some x := by
      have z : (own ++ fn)[j]? = some x := e1
      rwa [List.getElem?_append_right hj] at z
    rw [List.getElem?_map] at e2'
    cases q : fr[j - own.length]? with
    | none => rw [q] at e2'; cases e2'
    | some i =>
      rw [q] at e2'
      have ei : (σ[i]?).join = some v := Option.some.inj e2'
      have ei' : σ[i]? = some (some v) := by
        cases z : σ[i]? with
        | none => rw [z] at ei; cases ei
        | some t => rw [z] at ei; cases ei; rfl
      have hx : X.N[i]? = some x := (S.out _ _ q).trans e1'
      obtain ⟨kc, kf⟩ := S.fre x (List.mem_of_getElem? e1')
      obtain ⟨m, hn, hl⟩ := I.loc
      obtain ⟨u, r, l⟩ := hl i x v hx ei' (.inr (.inl kc))
      rcases l with ⟨k, _⟩ | ⟨_, c, ec, z⟩
      · rw [kc] at k
        cases k
      · obtain ⟨c', ec'⟩ := S.has (x, .free) (PySem.mem_of_lookup kf) rfl
        have : c' = c := Option.some.inj ((lookup_sub S.cls x c' ec').symm.trans ec)
        subst this
        obtain ⟨o, ho, hd⟩ := z
        exact ⟨u, r, .inr ⟨.inl (relabel_cell I.ok.kind kf kc), c', ec', o, old _ _ ho, hd⟩⟩
  · obtain ⟨v, o, ho, hd⟩ := I.cell x c (lookup_sub S.cls x c e)
    exact ⟨v, o, old _ _ ho, hd⟩
  · show upd H s.heap.objs.size (.lst []) (s.heap.objs.size + 1) = none
    rw [upd_ne (Nat.succ_ne_self _)]
    exact I.hok.fresh (Nat.le_succ _)
  · have ec := lookup_sub S.cls x c e
    obtain ⟨v, o, ho, _⟩ := I.cell x c ec
    rw [upd_ne (Nat.ne_of_lt (Heap.lt_size ho))]
    exact I.freeC x c ec
  · unfold compSt
    show _ = (own ++ fn).length
    simp [S.len]

theorem pe_comp {elt iter : Expr} {ifs : List Expr} {pos : Pos} {wi : TI} {g : TG} {tt : TT} {te : TE} (hc : X.calm = true) (S : CompScope X scope cl own fn fr) (hi : PI X tg iter wi)
    (hg : ∀ C s H fp, PG (X.comp scope cl C (own ++ fn) s H fp) tg g) (ht : ∀ C s H fp, PTs (X.comp scope cl C (own ++ fn) s H fp) ifs tt) (he : ∀ C s H fp, PE (X.comp scope cl C (own ++ fn) s H fp) elt te)
    (hs : ∀ x, foldedSetIterable iter X.env x = pure x := by intro _; rfl) : PE X (.ListComp elt [⟨tg, iter, ifs, 0⟩] scope pos) (tComp wi g tt te own.length fr) := by
  intro pins s σ H Q I h
  rw [eval_ListComp]
  refine wpAny_comprehension_free (use := none) rfl hs S.clos S.kind S.names (thn (hi pins s σ H _ I h) fun v s1 h1 => thn h1 fun itv s2 h2 => ?_)
  obtain ⟨it, fp, tn, J, H2, rfl, I2, T, st2, f2, q⟩ := h2
  refine wpAny_newObj_type (wpAny_newFunctionEnv S.cell (by intro y hy; simp at hy) (fun h4 ns4 sb4 => ?_) S.kind)
  have hnew : H2 s2.heap.objs.size = none := I2.hok.fresh (Nat.le_refl _)
  obtain ⟨W, ⟨m0, w0⟩, turn⟩ := q s2.heap.objs.size hnew
  have sz : (s2.heap.push { cls := .type "list", dict := none, data := .seq ([] : List Value).toArray }).objs.size = s2.heap.objs.size + 1 := Heap.size_push ..
  dsimp only at ns4 sb4 ⊢
  rw [sz] at ns4 sb4 ⊢
  have old : ∀ b o, s2.heap.get? b = some o → h4.get? b = some o := fun b o e =>
    (sb4.2 b (Nat.ne_of_lt (Nat.lt_succ_of_lt (Heap.lt_size e)))).trans (Heap.get?_push_of_some _ (Heap.get?_push_of_some _ e))
  have acc : h4.get? s2.heap.objs.size = some { cls := .type "list", data := .seq ([] : List Value).toArray } :=
    (sb4.2 _ (Nat.ne_of_lt (Nat.lt_succ_self _))).trans (Heap.get?_push_of_some _ (Heap.get?_push_size _ rfl))
  have fo : ∀ b ∈ fp, ∃ o, s2.heap.get? b = some o := fun b hb => let ⟨o, e, _⟩ := T.obj 0 _ st2 b hb; ⟨o, e⟩
  have I4 := comp_start (tk := s2.toks + ([] : List (Str × Value)).length) S I2 f2 fo I2.len ns4 old acc
  have stf : ∀ {H' : Hp} {pl : List (Addr × Obj)}, pl = [] → (∀ b ∈ fp, H' b = none) → ∀ b ∈ fp, FpOk (X.comp scope cl (s2.heap.objs.size + 1) (own ++ fn) s2 H2 fp) pl H' b := fun {H' pl} e hn b hb => by
    subst e
    exact ⟨hn b hb, (I4.ok.exf b hb).1, I4.ok.exfs b hb, .inl hb, (I4.ok.exf b hb).2, fun p hp => absurd (show p ∈ ([] : List (Addr × Obj)) from hp) (by simp)⟩
  have st4 : tn 0 h4 := T.keep _ _ _ st2 fun b hb o e => old b o e
  have fr4 : ∀ b ∈ fp, upd H2 s2.heap.objs.size (.lst []) b = none := fun b hb => by
    obtain ⟨o, e⟩ := fo b hb
    rw [upd_ne (Nat.ne_of_lt (Heap.lt_size e))]
    exact (f2 b hb).1
  have out : ∀ {τ : St} {H' : Hp} {s' : Shared}, Inv (X.comp scope cl (s2.heap.objs.size + 1) (own ++ fn) s2 H2 fp) [] τ H' s' → Q (.ref s2.heap.objs.size) H' →
      compPost (model X.prog X.w) X.A X.xe none (EP X pins σ Q) (.ref s2.heap.objs.size) (s2.heap.objs.size + 1) (.ok .next) s' := fun {τ H' s'} J' hq => by
    obtain ⟨m, hn, _⟩ := id J'.loc
    refine ⟨m, hn, fun h' sb => ⟨.ref s2.heap.objs.size, H', ?_, rfl, hq⟩⟩
    have lo : ∀ b o, s2.heap.get? b = some o → b ≠ s2.heap.objs.size + 1 := fun b o e => Nat.ne_of_lt (Nat.lt_succ_of_lt (Heap.lt_size e))
    have fC : H' (s2.heap.objs.size + 1) = none := J'.free
    have u : Un (frs X.stack) fp H2 H' s2.heap h' :=
      ⟨fun b o e n hb hx => (sb.2 b (lo b o e)).trans (J'.base.keep b o e n hb hx), fun b o e n hb hx => let ⟨sl, e1⟩ := J'.base.slot b o e n hb hx; ⟨sl, (sb.2 b (lo b o e)).trans e1⟩, J'.base.free,
        fun b o e hx => let ⟨o', e1⟩ := J'.base.there b o e hx; ⟨o', (sb.2 b (lo b o e)).trans e1⟩, J'.base.tups, J'.base.frzs, J'.base.tbls⟩
    have hk : HOk X.prog X.w H' h' := fun b ob e => (J'.hok b ob e).stay (fun c v hc z => (sb.2 c fun zz => by
      subst zz
      rcases hc with zz | zz
      · rw [← zz, fC] at e
        cases e
      · rw [fC] at zz
        cases zz).trans z) (fun _ z => z) fun _ _ z => z
    exact I2.call' (s' := { s' with heap := h' }) J'.os u hk J'.bare fun b hb => ⟨(f2 b hb).2.2.2.1, (f2 b hb).2.1, (f2 b hb).2.2.2.2.1, (f2 b hb).2.2.2.2.2⟩
  have loop : codeAny (model X.prog X.w) X.A (.compLoop (.ListComp elt [⟨tg, iter, ifs, 0⟩] scope pos) 0 (.ref it) (.ref s2.heap.objs.size) (compEnvC scope cl (s2.heap.objs.size + 1) X.env))
      (compPost (model X.prog X.w) X.A X.xe none (EP X pins σ Q) (.ref s2.heap.objs.size) (s2.heap.objs.size + 1)) { s2 with heap := h4, toks := s2.toks + ([] : List (Str × Value)).length } := by
    refine comp_loop (fun n s' => ∃ i τ H', Inv (X.comp scope cl (s2.heap.objs.size + 1) (own ++ fn) s2 H2 fp) [] τ H' s' ∧ tn i s'.heap ∧ (∀ b ∈ fp, H' b = none) ∧ W i n τ H') ?_ m0 ⟨0, _, _, I4, st4, fr4, w0⟩
    rintro n s5 ⟨i, τ, H5, I5, st5, fr5, w5⟩
    rcases turn i n τ H5 w5 with ⟨stop, qn⟩ | ⟨go, step⟩
    · refine thn (T.done (X.comp scope cl (s2.heap.objs.size + 1) (own ++ fn) s2 H2 fp) rfl rfl rfl hc i [] s5 τ H5 (fun _ _ => False) I5 (stf rfl fr5) st5 stop) fun r s6 ⟨hr, I6⟩ => ?_
      subst hr
      exact out I6 qn
    · refine thn (T.item (X.comp scope cl (s2.heap.objs.size + 1) (own ++ fn) s2 H2 fp) rfl rfl rfl hc i [] s5 τ H5 (fun _ _ => False) I5 (stf rfl fr5) st5 go) fun r s6 ⟨u, hr, h6⟩ => ?_
      subst hr
      refine thn h6 fun _ s7 ⟨x, H7, I7, r7, y7, st7, fr7⟩ => ?_
      have I7' := I7.pinned (stf rfl fr7) (T.obj _ _ st7)
      refine thn (hg _ _ _ _ _ s7 τ H7 x u _ I7' r7 (step x H7 y7)) fun _ s8 ⟨τ8, H8, I8, q8⟩ => ?_
      have again : ∀ {s9 : Shared} {H9 : Hp} {m' : Nat}, Inv (X.comp scope cl (s2.heap.objs.size + 1) (own ++ fn) s2 H2 fp) ([] ++ pinsAt fp s7.heap) τ8 H9 s9 → m' < n → W (i + 1) m' τ8 H9 →
          ∃ m, m < n ∧ ∃ i τ H', Inv (X.comp scope cl (s2.heap.objs.size + 1) (own ++ fn) s2 H2 fp) [] τ H' s9 ∧ tn i s9.heap ∧ (∀ b ∈ fp, H' b = none) ∧ W i m τ H' := fun {s9 H9 m'} I9 hm w9 => by
        refine ⟨m', hm, i + 1, τ8, H9, I9.unpinned, T.keep _ _ _ st7 fun b hb o e => (I9.pin (b, o) (List.mem_append_right _ (List.mem_append_right _ (mem_pinsAt hb e)))).1, fun b hb => ?_, w9⟩
        obtain ⟨o, e, d⟩ := T.obj _ _ st7 b hb
        exact (I9.pin (b, o) (List.mem_append_right _ (List.mem_append_right _ (mem_pinsAt hb e)))).2.1
      refine thn (ht _ _ _ _ _ s8 τ8 H8 _ I8 q8) fun ok s9 ⟨H9, I9, q9⟩ => ?_
      cases ok with
      | false =>
        obtain ⟨m', hm, w9⟩ := q9
        exact again I9 hm w9
      | true =>
        refine thn (he _ _ _ _ _ s9 τ8 H9 _ I9 q9) fun u10 s10 ⟨y, H10, I10, r10, ys, e10, z10, m', hm, w10⟩ => ?_
        refine thn (mt_append _ s10 τ8 H10 (.ref s2.heap.objs.size) [y] _ [u10] (fun _ H11 => W (i + 1) m' τ8 H11) I10 rfl (.cons r10 .nil) ⟨_, ys, y, rfl, rfl, e10, z10, w10⟩) fun _ s11 ⟨_, H11, I11, _, w11⟩ => ?_
        exact again I11 hm w11
  exact codeAny_compStart_list loop (T.self _ 0 _ _ _ st4 loop)
end
end L2

namespace L2
open PySem PySem.Spec PyProof.Rows

def Itz (K : PySem.W.Frag) (a b : Addr) : It :=
  ⟨fun i H => ∃ xs ys x y, SqL K H a xs ∧ SqL K H b ys ∧ xs[i]? = some x ∧ ys[i]? = some y,
   fun i H v H' => ∃ p, v = .ref p ∧ H p = none ∧ ∀ xs ys x y, SqL K H a xs → SqL K H b ys → xs[i]? = some x → ys[i]? = some y → H' = upd H p (.tup [x, y]),
   fun i H => ∃ xs ys, SqL K H a xs ∧ SqL K H b ys ∧ (xs.length ≤ i ∨ ys.length ≤ i)⟩

structure ZipSt (z TI TO i1 i2 a b : Addr) (i : Nat) (h : Heap) : Prop where
  z : IsZip h z TI TO .none
  ti : IsPair h TI (.ref i1) (.ref i2)
  to : ∃ u v, IsPair h TO u v
  l1 : h.IsListIter i1 a i
  l2 : h.IsListIter i2 b i

theorem turn_zip {P : Program} {w : World} {K : PySem.W.Frag} {es : List Expr} {k : Nat} {tp : Pos} {z TI TO i1 i2 a b : Addr} (D : ZipApart z TI TO i1 i2 a b) :
    Turn P w K (.Tuple es k tp) (Itz K a b) [z, TI, TO, i1, i2] z (fun i h => ZipSt z TI TO i1 i2 a b i h) where
  mem := by simp
  obj := fun i h st c hc => by
    simp only [List.mem_cons, List.not_mem_nil, or_false] at hc
    obtain ⟨u, v, hto⟩ := st.to
    obtain ⟨o1, e1, c1, d1⟩ := st.l1
    obtain ⟨o2, e2, c2, d2⟩ := st.l2
    rcases hc with e | e | e | e | e <;> subst e
    · exact ⟨_, st.z, fun v q => by cases q⟩
    · exact ⟨_, st.ti, fun v q => by cases q⟩
    · exact ⟨_, hto, fun v q => by cases q⟩
    · exact ⟨o1, e1, fun v q => by rw [d1] at q; cases q⟩
    · exact ⟨o2, e2, fun v q => by rw [d2] at q; cases q⟩
  keep := fun i h h' st k => by
    obtain ⟨u, v, hto⟩ := st.to
    exact ⟨k z (by simp) _ st.z, k TI (by simp) _ st.ti, ⟨u, v, k TO (by simp) _ hto⟩, st.l1.at fun o e => k i1 (by simp) o e, st.l2.at fun o e => k i2 (by simp) o e⟩
  item := by
    intro X hP hw hK hc i pins s σ H E I hf st hg
    subst hP hw hK
    obtain ⟨xs, ys, x, y, h1, h2, ex, ey⟩ := hg
    obtain ⟨is1, v1, p1, _⟩ := I.list h1
    obtain ⟨is2, v2, p2, _⟩ := I.list h2
    obtain ⟨u, v, hto⟩ := st.to
    obtain ⟨ux, eux, rx⟩ := v1.get ex
    obtain ⟨uy, euy, ry⟩ := v2.get ey
    refine wpAny_pyNext_zip_item D st.z st.ti hto st.l1 st.l2 p1.isList p2.isList (by simpa using eux) (by simpa using euy) fun h' hz hTO hi1 hi2 hT hsz kk => ⟨_, rfl, ?_⟩
    refine wpAny_letOwnedTupleGo_zip (s := { s with heap := h' }) hz fun h2' hz2 sb => ?_
    have new : H s.heap.objs.size = none := I.hok.fresh (Nat.le_refl _)
    have zlt : z < s.heap.objs.size := Heap.lt_size st.z
    have kk2 : ∀ c o, c ≠ z → c ≠ TO → c ≠ i1 → c ≠ i2 → s.heap.get? c = some o → h2'.get? c = some o := fun c o c1 c2 c3 c4 e => (sb.2 c c1).trans (kk c o c1 c2 c3 c4 e)
    have hT2 : IsPair h2' s.heap.objs.size ux uy := (sb.2 _ (Nat.ne_of_gt zlt)).trans hT
    have off : ∀ c, c ∉ [z, TI, TO, i1, i2] → c ≠ z ∧ c ≠ TO ∧ c ≠ i1 ∧ c ≠ i2 := fun c hc => by
      simp only [List.mem_cons, List.not_mem_nil, or_false, not_or] at hc
      exact ⟨hc.1, hc.2.2.1, hc.2.2.2.1, hc.2.2.2.2⟩
    have trk : ∀ c o, H c = some o → c ∉ [z, TI, TO, i1, i2] := fun c o e hc => by rw [(hf c hc).1] at e; cases e
    have hok1 : HOk X.prog X.w H h2' := fun c o e => (I.hok c o e).stay (fun d v hd q => by
      have hd' : d ∉ [z, TI, TO, i1, i2] := hd.elim (fun zz => by rw [zz]; exact trk c o e) fun zz => trk d _ zz
      obtain ⟨n1, n2, n3, n4⟩ := off d hd'
      exact kk2 d v n1 n2 n3 n4 q) (fun _ q => q) fun _ _ q => q
    have I1 : Inv X pins σ H { s with heap := h2' } := by
      refine I.step (g' := s.gens) (d' := s.drawn) (t' := s.toks) (ch := [z, TI, TO, i1, i2]) (fun c hc => ⟨(hf c hc).2.2.2.1, (hf c hc).2.1, (hf c hc).2.2.2.2.1, (hf c hc).2.2.2.2.2⟩) (fun c o _ _ hc e _ => ?_) (fun c o _ _ hc e _ => ⟨o.slots, ?_⟩) (fun _ _ _ _ n => n) (fun c o hc e => ⟨o, ?_⟩)
        (fun _ _ q => q) (fun _ _ _ q => q) (fun c ps q => ⟨#[], by rw [q]; simp⟩) (fun m hm => ?_) hok1 I.bare
      · obtain ⟨n1, n2, n3, n4⟩ := off c hc
        exact kk2 c o n1 n2 n3 n4 e
      · obtain ⟨n1, n2, n3, n4⟩ := off c hc
        exact kk2 c o n1 n2 n3 n4 e
      · obtain ⟨n1, n2, n3, n4⟩ := off c hc
        exact kk2 c o n1 n2 n3 n4 e
      · obtain ⟨o, es, ep, ho, r⟩ := hm
        obtain ⟨n1, n2, n3, n4⟩ := off X.env.locals fun hc => (hf _ hc).2.1 rfl
        exact ⟨o, es, ep, kk2 _ o n1 n2 n3 n4 ho, r⟩
    have y0 : X.s₀.heap.get? s.heap.objs.size = none := Heap.get?_none_of_le I.sz
    have I2 : Inv X pins σ (upd H s.heap.objs.size (.tup [x, y])) { s with heap := h2' } := by
      refine I1.track new y0 (Nat.ne_of_gt I.lt) (fun xx c e zz => ?_) (fun p hp zz => ?_) ⟨by show 2 ≤ sizeLine; decide, [ux, uy], .cons rx (.cons ry .nil), _, hT2, rfl, ?_⟩
      · obtain ⟨v', q⟩ := I.cell xx c e
        exact absurd q.lt (by rw [zz]; exact Nat.lt_irrefl _)
      · exact absurd (Heap.lt_size (I.pin p hp).1) (by rw [zz]; exact Nat.lt_irrefl _)
      · exact ⟨_, rfl⟩
    refine ⟨.ref s.heap.objs.size, _, I2, rfl, ⟨_, rfl, new, fun xs' ys' x' y' g1 g2 e1 e2 => ?_⟩, ⟨hz2, ?_, ⟨ux, uy, ?_⟩, hi1.at fun o e => (sb.2 i1 D.i1z).trans e, hi2.at fun o e => (sb.2 i2 D.i2z).trans e⟩, fun c hc => ?_⟩
    · cases I.list_inj h1 g1
      cases I.list_inj h2 g2
      rw [ex] at e1
      rw [ey] at e2
      cases e1
      cases e2
      rfl
    · exact kk2 TI _ D.TIz D.TITO D.TIi1 D.TIi2 st.ti
    · exact (sb.2 TO D.TOz).trans hTO
    · obtain ⟨o, e, _⟩ : ∃ o, s.heap.get? c = some o ∧ True := by
        simp only [List.mem_cons, List.not_mem_nil, or_false] at hc
        obtain ⟨o1, e1, _⟩ := st.l1
        obtain ⟨o2, e2, _⟩ := st.l2
        rcases hc with e | e | e | e | e <;> subst e
        · exact ⟨_, st.z, trivial⟩
        · exact ⟨_, st.ti, trivial⟩
        · exact ⟨_, hto, trivial⟩
        · exact ⟨_, e1, trivial⟩
        · exact ⟨_, e2, trivial⟩
      rw [upd_ne (Nat.ne_of_lt (Heap.lt_size e))]
      exact (hf c hc).1
  done := by
    intro X hP hw hK hc i pins s σ H E I hf st hg
    subst hP hw hK
    obtain ⟨xs, ys, h1, h2, hend⟩ := hg
    obtain ⟨is1, v1, p1, _⟩ := I.list h1
    obtain ⟨is2, v2, p2, _⟩ := I.list h2
    obtain ⟨u, v, hto⟩ := st.to
    have hend' : is1.toArray[i]? = none ∨ is2.toArray[i]? = none := hend.imp (fun q => by simpa using (by rw [← v1.length]; exact q)) fun q => by simpa using (by rw [← v2.length]; exact q)
    refine wpAny_pyNext_zip_end (I.ok.hd hc) D st.z st.ti hto st.l1 st.l2 p1.isList p2.isList hend' fun h' kk => ⟨rfl, ?_⟩
    have off : ∀ c, c ∉ [z, TI, TO, i1, i2] → c ≠ z ∧ c ≠ TO ∧ c ≠ i1 ∧ c ≠ i2 := fun c hc => by
      simp only [List.mem_cons, List.not_mem_nil, or_false, not_or] at hc
      exact ⟨hc.1, hc.2.2.1, hc.2.2.2.1, hc.2.2.2.2⟩
    have kk2 : ∀ c o, c ∉ [z, TI, TO, i1, i2] → s.heap.get? c = some o → h'.get? c = some o := fun c o hc e => by
      obtain ⟨n1, n2, n3, n4⟩ := off c hc
      exact kk c o n1 n2 n3 n4 e
    have trk : ∀ c o, H c = some o → c ∉ [z, TI, TO, i1, i2] := fun c o e hc => by rw [(hf c hc).1] at e; cases e
    have hok1 : HOk X.prog X.w H h' := fun c o e => (I.hok c o e).stay (fun d v hd q => kk2 d v (hd.elim (fun zz => by rw [zz]; exact trk c o e) fun zz => trk d _ zz) q) (fun _ q => q) fun _ _ q => q
    refine I.step (g' := s.gens) (d' := s.drawn) (t' := s.toks) (ch := [z, TI, TO, i1, i2]) (fun c hc => ⟨(hf c hc).2.2.2.1, (hf c hc).2.1, (hf c hc).2.2.2.2.1, (hf c hc).2.2.2.2.2⟩) (fun c o _ _ hc e _ => kk2 c o hc e) (fun c o _ _ hc e _ => ⟨o.slots, kk2 c o hc e⟩) (fun _ _ _ _ n => n) (fun c o hc e => ⟨o, kk2 c o hc e⟩)
      (fun _ _ q => q) (fun _ _ _ q => q) (fun c ps q => ⟨#[], by rw [q]; simp⟩) (fun m hm => ?_) hok1 I.bare
    obtain ⟨o, es, ep, ho, r⟩ := hm
    exact ⟨o, es, ep, kk2 _ o (fun hc => (hf _ hc).2.1 rfl) ho, r⟩
  self := fun A i s Q E st h => wpAny_pyIter_zip st.z h

section
variable {X : Cx}
def iZip (K : PySem.W.Frag) (ta : TA) : TI := fun σ H R => ta σ H fun vs H1 => ∃ a b xs ys, vs = [.ref a, .ref b] ∧ SqL K H1 a xs ∧ SqL K H1 b ys ∧ R (Itz K a b) H1
theorem pi_zip {es : List Expr} {k : Nat} {tp : Pos} {a b : Expr} {ta : TA} {p pos : Pos} (hg : Gl X "zip") (hm : X.mg "zip" = none) (ha : PA X [a, b] ta) (hs : starEach [a, b] X.env = [(false, eval a X.env), (false, eval b X.env)] := by rfl) (hs2 : starEach [b] X.env = [(false, eval b X.env)] := by rfl) :
    PI X (.Tuple es k tp) (.Call (.Name "zip" p) [a, b] [] pos) (iZip X.K ta) := by
  intro pins s σ H R I h
  refine Call_ (ld_blt I hg hm boot_zip (PyProof.Rows.callWith_type1 (thn (ha pos pins s σ H _ I h) fun us s1 ⟨vs, H1, I1, r1, q1⟩ => ?_) (by rw [hs, hs2]) (by rw [hs2]; rfl)))
  obtain ⟨la, lb, xs, ys, e, h1, h2, q⟩ := q1
  subst e
  cases r1 with
  | cons r rr =>
    cases rr with
    | cons r' rr =>
      cases rr
      cases r
      cases r'
      obtain ⟨is1, v1, p1, _⟩ := I1.list h1
      obtain ⟨is2, v2, p2, _⟩ := I1.list h2
      have l1 : la < s1.heap.objs.size := by obtain ⟨_, e, _⟩ := p1.isList; exact Heap.lt_size e
      have l2 : lb < s1.heap.objs.size := by obtain ⟨_, e, _⟩ := p2.isList; exact Heap.lt_size e
      refine call_zip_2 p1.isList p2.isList fun h' hz hTI hTO hi1 hi2 hsz kk => ?_
      have J : Inv X pins σ H1 { s1 with heap := h' } := I1.kept (t' := s1.toks) kk
      refine wpAny_pyIter_zip hz ⟨_, _, _, _, H1, rfl, J, turn_zip (zipApart_new l1 l2), ⟨hz, hTI, ⟨_, _, hTO⟩, hi1, hi2⟩, fun c hc => ?_, q⟩
      have ge : s1.heap.objs.size ≤ c := by
        simp only [List.mem_cons, List.not_mem_nil, or_false] at hc
        rcases hc with e | e | e | e | e <;> subst e <;> omega
      exact I1.fpOk ge (I1.hok.fresh ge)

def Itd (lo : Int) (n : Nat) : It := ⟨fun i _ => i < n, fun i H x H' => H' = H ∧ x = .int (lo - i), fun i _ => n ≤ i⟩
theorem turn_down {P : Program} {w : World} {K : PySem.W.Frag} {tg : Expr} (it : Addr) (lo : Int) (n : Nat) : Turn P w K tg (Itd lo n) [it] it (fun i h => IsRangeIter h it (lo + (i : Nat) * (-1)) ((n : Int) - (i : Nat)) (-1)) where
  mem := by simp
  obj := fun i h st b hb => by
    have e : b = it := by simpa using hb
    subst e
    exact ⟨_, st, fun v z => by
      have z' : Data.fields _ = Data.cell v := z
      cases z'⟩
  keep := fun i h h' st k => k it (by simp) _ st
  item := by
    intro X hP hw hK hc i pins s σ H E I hf st hg
    subst hP hw hK
    obtain ⟨f0, f1, f2, f3, f4, f5⟩ := hf it (by simp)
    have W := Walks.range (prog := X.prog) (w := X.w) (I.ok.hd hc) it lo (-1) n
    refine W.item i s _ _ hg st fun v h' tk hv st' kk => ?_
    obtain ⟨t, rfl⟩ := hv
    have I1 : Inv X pins σ H { s with heap := h', toks := tk } := I.turned (fun b o hb e => kk b o (by simpa using hb) e) f0 f1 f3 f4 f5
    refine ⟨_, rfl, go_of (s := { s with heap := h', toks := tk }) (n := "range_iterator") st' rfl rfl (by decide) ⟨.int (lo - i), H, I1, ⟨t, ?_⟩, ⟨rfl, rfl⟩, st', fun b hb => (hf b hb).1⟩⟩
    rw [show lo + (i : Int) * (-1) = lo - i by omega]
  done := by
    intro X hP hw hK hc i pins s σ H E I hf st hg
    subst hP hw hK
    obtain ⟨f0, f1, f2, f3, f4, f5⟩ := hf it (by simp)
    exact wpAny_pyNext_range_end (I.ok.hd hc) st (by have : n ≤ i := hg; omega) fun h' eb => ⟨rfl, I.turned (t' := s.toks) (fun b o hb e => eb b o hb e) f0 f1 f3 f4 f5⟩
  self := fun _ _ _ _ _ st h => wpAny_pyIter_rangeiter st h

theorem size_down (a b : Int) : Builtin.Range.rangeSize a b (-1) = ((a - b).toNat : Int) := by
  unfold Builtin.Range.rangeSize
  rw [if_neg (by decide)]
  have e : (-(-1) : Int) = 1 := rfl
  rw [e, Int.ediv_one]
  split <;> omega
theorem small_dn {a b : Int} (h1 : -(2 ^ 62) ≤ a) (h2 : a < 2 ^ 62) (h3 : -(2 ^ 62) ≤ b) (h4 : b < 2 ^ 62) : Builtin.Range.small a b (-1) = true := by
  have c : ¬ ((-1 : Int) > 0) := by decide
  unfold Builtin.Range.small
  rw [size_down]
  simp only [Bool.and_eq_true, Bool.or_eq_true, Builtin.Range.rangeFitsLong, decide_eq_true_eq, beq_iff_eq, c, if_false]
  omega
def iRngD (ta : TA) : TI := fun σ H R => ta σ H fun vs H1 => ∃ i j : Int, vs = [.int i, .int j, .int (-1)] ∧ (-(2 ^ 62) ≤ i ∧ i < 2 ^ 62 ∧ -(2 ^ 62) ≤ j ∧ j < 2 ^ 62) ∧ R (Itd i (i - j).toNat) H1
theorem pi_rangeD {tg a b c : Expr} {ta : TA} {p pos : Pos} (hg : Gl X "range") (hm : X.mg "range" = none) (ha : PA X [a, b, c] ta) (hs : starEach [a, b, c] X.env = [(false, eval a X.env), (false, eval b X.env), (false, eval c X.env)] := by rfl) (hs2 : starEach [b, c] X.env = [(false, eval b X.env), (false, eval c X.env)] := by rfl) :
    PI X tg (.Call (.Name "range" p) [a, b, c] [] pos) (iRngD ta) := by
  intro pins s σ H R I h
  refine Call_ (ld_blt I hg hm boot_range (PyProof.Rows.callWith_type1 (thn (ha pos pins s σ H _ I h) fun us s1 ⟨vs, H1, I1, r1, q1⟩ => ?_) (by rw [hs, hs2]) (by rw [hs2]; rfl)))
  obtain ⟨i, j, e, ⟨q1, q2, q3, q4⟩, q⟩ := q1
  subst e
  cases r1 with
  | cons r rr =>
    cases rr with
    | cons r' rr =>
      cases rr with
      | cons r'' rr =>
        cases rr
        obtain ⟨t, rfl⟩ := r
        obtain ⟨t', rfl⟩ := r'
        obtain ⟨t'', rfl⟩ := r''
        refine call_range_3 (by decide) ?_ (.inl (PyProof.noPylong_small (by decide)))
        refine wpAny_pyIter_range (IsRange.new ..) (small_dn q1 q2 q3 q4) ?_
        have J : Inv X pins σ H1 { s1 with heap := s1.heap.push { cls := .type "range", data := .fields #[.int i t, .int j t', .int (-1) t''] }, toks := s1.toks } := I1.kept fun b o e => Heap.get?_push_of_some _ e
        refine ⟨_, [_], _, _, H1, rfl, J.kept (t' := s1.toks) fun b o e => Heap.get?_push_of_some _ e, turn_down _ i (i - j).toNat, ?_, fun b hb => ?_, q⟩
        · show IsRangeIter _ _ (i + ((0 : Nat) : Int) * (-1)) ((((i - j).toNat : Nat) : Int) - ((0 : Nat) : Int)) (-1)
          rw [show i + ((0 : Nat) : Int) * (-1) = i by simp, show (((i - j).toNat : Nat) : Int) - ((0 : Nat) : Int) = Builtin.Range.rangeSize i j (-1) by rw [size_down]; omega]
          exact Heap.get?_push_size _ rfl
        · rw [List.mem_singleton.mp hb]
          exact J.fpOk (Nat.le_refl _) (J.hok.fresh (Nat.le_refl _))
theorem for_down {lo : Int} {n : Nat} {g : TG} {tb : TS} {D : Ends} {σ : St} {H : Hp} (Pv : Nat → St → Hp → Prop) (h0 : Pv 0 σ H)
    (hs : ∀ i σ H, i < n → Pv i σ H → g (.int (lo - i)) σ H fun σ2 H2 => tb { D with nx := Pv (i + 1), ct := Pv (i + 1), bk := D.nx } σ2 H2) (hd : ∀ σ H, Pv n σ H → D.nx σ H) :
    ∃ W : Nat → Nat → St → Hp → Prop, (∃ m, W 0 m σ H) ∧ ∀ i m σ H, W i m σ H →
      ((Itd lo n).stop i H ∧ D.nx σ H) ∨ ((Itd lo n).go i H ∧ ∃ N : St → Hp → Prop, (∀ σ' H', N σ' H' → ∃ m', m' < m ∧ W (i + 1) m' σ' H') ∧ ∀ x H', (Itd lo n).yld i H x H' → g x σ H' fun σ2 H2 => tb { D with nx := N, ct := N, bk := D.nx } σ2 H2) := by
  refine ⟨fun i m σ H => m = n - i ∧ i ≤ n ∧ Pv i σ H, ⟨n, by simp, Nat.zero_le _, h0⟩, ?_⟩
  rintro i m σ H ⟨rfl, hi, p⟩
  by_cases hlt : i < n
  · refine .inr ⟨hlt, Pv (i + 1), fun σ' H' p' => ⟨n - (i + 1), by omega, rfl, hlt, p'⟩, fun x H' y => ?_⟩
    obtain ⟨e, y⟩ := y
    subst e y
    exact hs i σ _ hlt p
  · have e : i = n := by omega
    subst e
    exact .inl ⟨Nat.le_refl _, hd σ H p⟩
end
end L2

namespace L2
open PySem PySem.Spec PyProof.Rows

theorem same_put {H H' : Hp} {p : Addr} (h : H p = none) (e : Same H H') (o : HO) : Same H (upd H' p o) := fun b u q => by rw [upd_ne (ne_of_none q h)]; exact e b u q
theorem sq_same {K : PySem.W.Frag} {H H' : Hp} {a : Addr} {xs : List V} (e : Same H H') (h : SqL K H a xs) : SqL K H' a xs := e.seq h

theorem comp_list {K : PySem.W.Frag} {a : Addr} {xs : List V} {tt : TT} {te : TE} {σ rest : St} {fr : List Nat} {H1 : Hp} {Q : VK} {D : Addr} (f : V → Option V) (hD : H1 D = none) (hl : SqL K H1 a xs) (hz : xs.length < sizeLine) (h0 : compSt σ 1 fr = none :: rest)
    (step : ∀ (i : Nat) (x : V) (H : Hp), xs[i]? = some x → Same H1 H → ∀ (R : V → Hp → Prop) (R0 : Hp → Prop), (∀ y H', f x = some y → Same H H' → R y H') → (∀ H', f x = none → Same H H' → R0 H') →
      tt (some x :: rest) H fun ok H3 => if ok = true then te (some x :: rest) H3 R else R0 H3)
    (hq : ∀ H', Same H1 H' → H' D = some (.lst (xs.filterMap f)) → Q (.ref D) H') :
    compRun (Itl K a) (gName 0) tt te 1 fr σ H1 D Q := by
  refine ⟨fun i m τ H => m = xs.length - i ∧ i ≤ xs.length ∧ (∃ v, τ = v :: rest) ∧ Same H1 H ∧ H D = some (.lst ((xs.take i).filterMap f)), ⟨xs.length, by simp, Nat.zero_le _, ⟨none, h0⟩, same_put hD (Same.refl _) _, by simpa using upd_same⟩, ?_⟩
  rintro i m τ H ⟨rfl, hi, ⟨v, rfl⟩, sm, hd⟩
  have q := sq_same sm hl
  by_cases hlt : i < xs.length
  · refine .inr ⟨⟨xs, xs[i], q, by simp [hlt]⟩, fun x H' y => ?_⟩
    obtain ⟨e, y⟩ := y
    subst e
    have hx := y xs q
    have tk : (xs.take (i + 1)).filterMap f = (xs.take i).filterMap f ++ (match f x with | some z => [z] | none => []) := by
      rw [List.take_add_one, hx, List.filterMap_append]
      congr 1
      show ([x] : List V).filterMap f = _
      rw [List.filterMap_cons]
      cases f x <;> rfl
    have ln : ((xs.take i).filterMap f).length ≤ i := Nat.le_trans (List.length_filterMap_le f _) (by rw [List.length_take]; exact Nat.min_le_left _ _)
    refine step i x _ hx sm _ _ (fun z H4 hz4 s4 => ?_) fun H3 hz3 s3 => ?_
    · refine ⟨_, s4 _ _ hd, by omega, xs.length - (i + 1), by omega, rfl, hlt, ⟨_, rfl⟩, same_put hD (sm.trans s4) _, ?_⟩
      rw [upd_same, tk, hz4]
    · refine ⟨xs.length - (i + 1), by omega, rfl, hlt, ⟨_, rfl⟩, sm.trans s3, ?_⟩
      rw [tk, hz3, List.append_nil]
      exact s3 _ _ hd
  · have e : i = xs.length := by omega
    subst e
    rw [List.take_length] at hd
    exact .inl ⟨⟨xs, q, Nat.le_refl _⟩, hq H sm hd⟩

theorem comp_map {K : PySem.W.Frag} {a : Addr} {xs : List V} {te : TE} {σ rest : St} {fr : List Nat} {H1 : Hp} {Q : VK} {D : Addr} (f : V → V) (hD : H1 D = none) (hl : SqL K H1 a xs) (hz : xs.length < sizeLine) (h0 : compSt σ 1 fr = none :: rest)
    (step : ∀ (i : Nat) (x : V) (H : Hp), xs[i]? = some x → Same H1 H → ∀ (R : V → Hp → Prop), (∀ H', Same H H' → R (f x) H') → te (some x :: rest) H R)
    (hq : ∀ H', Same H1 H' → H' D = some (.lst (xs.map f)) → Q (.ref D) H') : compRun (Itl K a) (gName 0) tYes te 1 fr σ H1 D Q := by
  refine comp_list (fun x => some (f x)) hD hl hz h0 (fun i x H hx sm R R0 hR _ => ?_) fun H' sm e => hq H' sm ?_
  · show if true = true then te (some x :: rest) H R else R0 H
    rw [if_pos rfl]
    exact step i x H hx sm R fun H' s' => hR _ _ rfl s'
  · rw [e]
    congr 2
    exact List.filterMap_eq_map ▸ rfl

theorem comp_zip {K : PySem.W.Frag} {a b : Addr} {xs ys : List V} {te : TE} {σ rest : St} {fr : List Nat} {H1 : Hp} {Q : VK} {D : Addr} (f : V → V → V) (hD : H1 D = none) (hl : SqL K H1 a xs) (hm : SqL K H1 b ys) (hz : xs.length < sizeLine) (h0 : compSt σ 2 fr = none :: none :: rest)
    (step : ∀ (i : Nat) (x y : V) (H : Hp), xs[i]? = some x → ys[i]? = some y → Same H1 H → ∀ (R : V → Hp → Prop), (∀ H', Same H H' → R (f x y) H') → te (some x :: some y :: rest) H R)
    (hq : ∀ H', Same H1 H' → H' D = some (.lst (List.zipWith f xs ys)) → Q (.ref D) H') :
    compRun (Itz K a b) (gTup K 2 (gCons (gName 0) (gCons (gName 1) gNil))) tYes te 2 fr σ H1 D Q := by
  refine ⟨fun i m τ H => m = xs.length - i ∧ i ≤ xs.length ∧ i ≤ ys.length ∧ (∃ u v, τ = u :: v :: rest) ∧ Same H1 H ∧ H D = some (.lst (List.zipWith f (xs.take i) (ys.take i))), ⟨xs.length, by simp, Nat.zero_le _, Nat.zero_le _, ⟨none, none, h0⟩, same_put hD (Same.refl _) _, by simpa using upd_same⟩, ?_⟩
  rintro i m τ H ⟨rfl, hi, hj, ⟨u, v, rfl⟩, sm, hd⟩
  have q1 := sq_same sm hl
  have q2 := sq_same sm hm
  by_cases hlt : i < xs.length ∧ i < ys.length
  · obtain ⟨l1, l2⟩ := hlt
    have e1 : xs[i]? = some xs[i] := by simp [l1]
    have e2 : ys[i]? = some ys[i] := by simp [l2]
    refine .inr ⟨⟨xs, ys, xs[i], ys[i], q1, q2, e1, e2⟩, fun x H' y => ?_⟩
    obtain ⟨p, rfl, hp, z⟩ := y
    have e := z xs ys _ _ q1 q2 e1 e2
    subst e
    have s2 : Same H (upd H p (.tup [xs[i], ys[i]])) := same_put hp (Same.refl _) _
    refine ⟨p, _, rfl, SqT.of upd_same, rfl, _, _, rfl, _, _, rfl, rfl, ?_⟩
    show te (some xs[i] :: some ys[i] :: rest) _ _
    refine step i _ _ _ e1 e2 (sm.trans s2) _ fun H4 s4 => ?_
    refine ⟨_, s4 _ _ (s2 _ _ hd), ?_, xs.length - (i + 1), by omega, rfl, l1, l2, ⟨_, _, rfl⟩, same_put hD (sm.trans (s2.trans s4)) _, ?_⟩
    · rw [List.length_zipWith, List.length_take, List.length_take]
      omega
    · rw [upd_same, List.take_add_one, List.take_add_one, e1, e2, List.zipWith_append (by rw [List.length_take, List.length_take]; omega)]
      rfl
  · have hd' : H D = some (.lst (List.zipWith f xs ys)) := by
      rw [hd]
      congr 2
      rw [← List.take_zipWith]
      refine List.take_of_length_le ?_
      rw [List.length_zipWith]
      omega
    refine .inl ⟨⟨xs, ys, q1, q2, ?_⟩, hq H sm hd'⟩
    by_cases l1 : i < xs.length
    · exact .inr (by omega)
    · exact .inl (by omega)

theorem pg_two {X : Cx} {K : PySem.W.Frag} {x y : Str} {px py pos : Pos} {k : Nat} (hc : X.calm = true) (hN : X.N.Nodup) (h0 : X.N[0]? = some x) (h1 : X.N[1]? = some y) (hx : Loc X.env.scope x) (hy : Loc X.env.scope y)
    (fx : X.fn x = true ∨ X.env.scope.names.lookup x = some .local := by first | exact .inl rfl | exact .inr rfl) (fy : X.fn y = true ∨ X.env.scope.names.lookup y = some .local := by first | exact .inl rfl | exact .inr rfl) (hK : X.K = K := by rfl) :
    PG X (.Tuple [.Name x px, .Name y py] k pos) (gTup K 2 (gCons (gName 0) (gCons (gName 1) gNil))) := by
  subst hK
  exact pg_tup hc (pgs_cons (pg_name hN h0 hx fx) (pgs_cons (pg_name hN h1 hy fy) pgs_nil rfl) rfl) rfl rfl
theorem ix_listK {X : Cx} {K : PySem.W.Frag} (hK : X.K = K := by rfl) : IxR X (rIxL K) := by
  subst hK
  exact ix_list
end L2

namespace L2
open PySem PySem.Spec PyProof.Rows
section
variable {prog : Program} {w : World} {A : Around} {E : Value → Shared → Prop} {s : Shared}
theorem lri_len : typeLookup (.type "list_reverseiterator") "__len__" = pure none := by rw [typeLookup_type, builtinLookup_eq_fast]; kernel_rfl
theorem lri_hint : typeLookup (.type "list_reverseiterator") "__length_hint__" = pure (some (.builtin "list_reverseiterator.__length_hint__")) := by rw [typeLookup_type, builtinLookup_eq_fast]; kernel_rfl
theorem lri_self : isSubtype (.type "list_reverseiterator") (.type "list_reverseiterator") = pure true := by rw [isSubtype_type]; kernel_rfl
theorem hint_rev {it l : Addr} {i : Int} {Q : Bool → Shared → Prop} (hit : s.heap.IsRevIter it l i) (h : Q false s) : wpAny (model prog w) A (Builtin.List.listLengthHint (.ref it)) Q E s := by
  unfold Builtin.List.listLengthHint
  refine wpAny_bind (wpAny_specialOf hit.typeIs lri_len ?_)
  refine wpAny_ite_split (fun z => absurd z (by decide +kernel)) fun _ => ?_
  refine wpAny_ite_split (fun z => absurd z (by decide)) fun _ => ?_
  refine wpAny_bind (wpAny_specialOf hit.typeIs lri_hint ?_)
  generalize hid : ("list_reverseiterator.__length_hint__" : String) = id0
  wp_delta
  rw [show splitId id0 = some ("list_reverseiterator", "__length_hint__") from by subst hid; decide +kernel]
  subst hid
  refine wpAny_bind (wpAny_isInstance (T := "list_reverseiterator") (b := true) hit.typeIs lri_self ?_)
  refine wpAny_ite_split (fun z => absurd z (by decide)) fun _ => ?_
  refine wpAny_ite_split (fun _ => ?_) fun z => absurd (by decide +kernel) z
  exact wpAny_ite_split (fun z => absurd z (by decide +kernel)) fun _ => wpAny_pure h

theorem extend_rev {R : Result → Shared → Prop} {it l S : Addr} {items : Array Value} {c0 : Nat} {res : Value} (hh : A.handled = none) (hit : s.heap.IsRevIter it l ((items.size : Int) - 1)) (hl : s.heap.IsList l items) (hz : items.size ≤ sizeLine) (lit : l ≠ it) (Sit : S ≠ it) (Sl : S ≠ l)
    (hS : s.heap.get? S = some { cls := .type "list", data := .seq #[] c0 })
    (hR : ∀ s' acc c, Moved [S, it] (fun a b => b = a) s s' → s'.heap.get? S = some { cls := .type "list", dict := none, data := .seq acc c, slots := #[] } → ItemsOf (fun i v => items[items.size - 1 - i]? = some v) acc items.size → R (.ok (.ret res)) s') :
    wpAny (model prog w) A.in1 (Builtin.List.listExtendWith (.ref S) (.ref it) res)
      (fun fin s' => match fin with | .done f => R (.ok f) s' | .again c' => c'.quiet = true ∧ codeAny (model prog w) A c' R s') (fun e s' => R (.error e) s') s := by
  have W := (Walks.listRev (prog := prog) (w := w) (A := A.in1) hh it l lit items).toS
  have e1 : Builtin.List.listSameRef (.ref S) (.ref it) = false := by simp [Builtin.List.listSameRef, Sit]
  have e2 : (Value.type "list_reverseiterator" == Value.type "list") = false := by decide
  have e3 : (Value.type "list_reverseiterator" == Value.type "tuple") = false := by decide
  unfold Builtin.List.listExtendWith
  refine wpAny_bind (wpAny_typeOf hit.typeIs ?_)
  simp only [e1, e2, e3, Bool.or_false, if_false, Bool.false_eq_true]
  refine wpAny_bind (wpAny_pyIter_revIter hit (wpAny_bind (wpAny_holding (hint_rev hit ?_))))
  refine wpAny_ite_split (fun z => absurd z (by decide +kernel)) fun _ => ?_
  refine wpAny_pure ⟨plainId_quiet F.plain_extend_loop _, codeAny_extend_loopS W hz S (by simp [Sit, Sl]) res items.size 0 s #[] c0 rfl (Nat.zero_le _) ⟨Nat.zero_le _, ?_, hl⟩ hS (ItemsOf.nil _) fun s' acc c' hm hS' hacc => hR s' acc c' hm hS' hacc⟩
  simpa using hit

theorem init_rev {R : Result → Shared → Prop} {it l S : Addr} {items : Array Value} (hh : A.handled = none) (hit : s.heap.IsRevIter it l ((items.size : Int) - 1)) (hl : s.heap.IsList l items) (hz : items.size ≤ sizeLine) (lit : l ≠ it) (Sit : S ≠ it) (Sl : S ≠ l)
    (hS : s.heap.get? S = some { cls := .type "list", data := .seq #[] })
    (hR : ∀ s' acc c, Moved [S, it] (fun a b => b = a) s s' → s'.heap.get? S = some { cls := .type "list", dict := none, data := .seq acc c, slots := #[] } → ItemsOf (fun i v => items[items.size - 1 - i]? = some v) acc items.size → R (.ok (.ret .none)) s') :
    wpAny (model prog w) A.in1 (Builtin.«list.__init__» ⟨[.ref S, .ref it], []⟩)
      (fun fin s' => match fin with | .done f => R (.ok f) s' | .again c' => c'.quiet = true ∧ codeAny (model prog w) A c' R s') (fun e s' => R (.error e) s') s := by
  show wpAny _ A.in1 (do let held ← Builtin.List.listItems (.ref S); Builtin.List.listUpdate (.ref S) (fun _ => #[]); letGo held.toList.reverse; Builtin.List.listExtendWith (.ref S) (.ref it) .none) _ _ s
  refine wpAny_bind ?_
  unfold Builtin.List.listItems
  refine wpAny_bind (wpAny_seqItems hS rfl (wpAny_pure ?_))
  show wpAny _ A.in1 (updateSeq S (fun _ => #[]) >>= fun _ => letGo (#[] : Array Value).toList.reverse >>= fun _ => Builtin.List.listExtendWith (.ref S) (.ref it) .none) _ _ s
  refine wpAny_bind (wpAny_updateSeq hS rfl (wpAny_bind (wpAny_letGo ?_)))
  have S2 := Heap.get?_update_self (Obj.mapSeq fun _ => (#[] : Array Value)) hS rfl
  have oth : ∀ b o, b ≠ S → s.heap.get? b = some o → (s.heap.update S (Obj.mapSeq fun _ => (#[] : Array Value))).get? b = some o := fun b o n e => (Heap.get?_update_other _ _ (Ne.symm n)).trans e
  refine extend_rev (s := { s with heap := s.heap.update S (Obj.mapSeq fun _ => (#[] : Array Value)) }) hh (hit.at fun o e => oth _ o (Ne.symm Sit) e) (Heap.IsList.at hl fun o e => oth _ o (Ne.symm Sl) e) hz lit Sit Sl S2 fun s' acc c hm hS' hi => ?_
  refine hR s' acc c ⟨fun b o hb e => hm.heap b o hb (oth b o (fun z => hb (by simp [z])) e), hm.gens, hm.drawn, hm.os, hm.toks⟩ hS' hi

theorem call_listRev {Q : Value → Shared → Prop} {it l : Addr} {items : Array Value} (hh : A.handled = none) (hit : s.heap.IsRevIter it l ((items.size : Int) - 1)) (hl : s.heap.IsList l items) (hz : items.size ≤ sizeLine) (lit : l ≠ it)
    (hQ : ∀ h' tk acc c, (∀ b o, b ≠ it → s.heap.get? b = some o → h'.get? b = some o) → h'.get? s.heap.objs.size = some { cls := .type "list", dict := none, data := .seq acc c, slots := #[] } →
      ItemsOf (fun i v => items[items.size - 1 - i]? = some v) acc items.size → Q (.ref s.heap.objs.size) { s with heap := h', toks := tk }) : wpAny (model prog w) A (call (.type "list") [.ref it]) Q E s := by
  obtain ⟨oi, ei, ci, di⟩ := id hit
  obtain ⟨ol, el, _⟩ := id hl
  have n1 : s.heap.objs.size ≠ it := Nat.ne_of_gt (Heap.lt_size ei)
  have n2 : s.heap.objs.size ≠ l := Nat.ne_of_gt (Heap.lt_size el)
  refine callType_codes (Q₁ := fun obj s1 => s1 = { s with heap := s.heap.push { cls := .type "list", data := .seq #[] } } ∧ obj = .ref s.heap.objs.size) F.called_list (F.typeCall_list_1 _) F.entry_list_init (code_list_new _ ⟨rfl, rfl⟩) fun obj s1 h1 => ?_
  obtain ⟨rfl, rfl⟩ := h1
  have hS : (s.heap.push { cls := .type "list", data := .seq #[] }).get? s.heap.objs.size = some { cls := .type "list", data := .seq #[] } := Heap.get?_push_size _ rfl
  refine ⟨⟨_, hS, rfl⟩, F.args_list_init_2 _ _, init_rev hh (hit.at fun o e => Heap.get?_push_of_some _ e) (Heap.IsList.at hl fun o e => Heap.get?_push_of_some _ e) hz lit n1 n2 hS fun s' acc c hm hS' hi => ⟨rfl, ?_⟩⟩
  rw [Moved.eq_with hm]
  refine hQ s'.heap s'.toks acc c (fun b o n e => hm.heap b o (fun z => ?_) (Heap.get?_push_of_some _ e)) hS' hi
  simp only [List.mem_cons, List.not_mem_nil, or_false] at z
  rcases z with z | z
  · exact absurd (Heap.lt_size e) (by rw [z]; exact Nat.lt_irrefl _)
  · exact n z
end

theorem items_rev {items acc : Array Value} (h : ItemsOf (fun i v => items[items.size - 1 - i]? = some v) acc items.size) : acc.toList = items.toList.reverse := by
  obtain ⟨hz, hp⟩ := h
  apply List.ext_getElem?
  intro j
  by_cases hj : j < items.size
  · have e1 : acc[j]? = some acc[j] := Array.getElem?_eq_getElem (by omega)
    have e2 := hp j _ e1
    rw [Array.getElem?_toList, e1, List.getElem?_reverse (by rw [Array.length_toList]; exact hj), Array.length_toList, Array.getElem?_toList, e2]
  · rw [List.getElem?_eq_none (by rw [Array.length_toList]; omega), List.getElem?_eq_none (by rw [List.length_reverse, Array.length_toList]; omega)]

section
variable {X : Cx}
def tRev (K : PySem.W.Frag) (ta : TE) : TE := fun σ H Q => ta σ H fun x H1 => ∃ l xs, x = .ref l ∧ SqL K H1 l xs ∧ ∀ r, H1 r = none → Q (.ref r) (upd H1 r (.lst xs.reverse))
theorem prev {a : Expr} {ta : TE} {p1 p2 q1 q2 : Pos} (hl : X.mg "list" = none) (hv : X.mg "reversed" = none) (ha : PE X a ta) (hc : X.calm = true := by rfl) (g1 : Gl X "list" := by rfl) (g2 : Gl X "reversed" := by rfl)
    (he : starEach (a :: []) X.env = (false, eval a X.env) :: starEach [] X.env := by rfl)
    (he2 : starEach (.Call (.Name "reversed" p2) [a] [] q2 :: []) X.env = (false, eval (.Call (.Name "reversed" p2) [a] [] q2) X.env) :: starEach [] X.env := by rfl) :
    PE X (.Call (.Name "list" p1) [.Call (.Name "reversed" p2) [a] [] q2] [] q1) (tRev X.K ta) := by
  intro pins s σ H Q I h
  refine wpAny_Call_Name_kw (ld_blt I g1 hl PyProof.Rows.Boot.«list» ?_)
  refine PyProof.Rows.callWith_type1 (PyProof.Rows.spliced_more ?_ he2) he2 rfl
  refine wpAny_Call_Name_kw (ld_blt I g2 hv PyProof.Rows.Boot.«reversed» ?_)
  refine PyProof.Rows.callWith_type1 (thn (pa_cons ha pa_nil he q2 pins s σ H (fun vs H1 => match vs with | [x] => ∃ l xs, x = .ref l ∧ SqL X.K H1 l xs ∧ ∀ r, H1 r = none → Q (.ref r) (upd H1 r (.lst xs.reverse)) | _ => False) I h) fun us s1 hq => ?_) he rfl
  obtain ⟨vs, H1, I1, rv, hq⟩ := hq
  rcases vs with _ | ⟨x, _ | ⟨y, t⟩⟩
  · exact hq.elim
  · obtain ⟨l, xs, rfl, hS, q⟩ := hq
    obtain ⟨u, rfl, r1⟩ := vals1 rv
    cases r1
    obtain ⟨its, vr, p, hz⟩ := I1.list hS
    refine call_reversed_list p.isList (PyProof.Rows.spliced_none ?_)
    obtain ⟨ol, el, _⟩ := id p.isList
    have nl : l ≠ s1.heap.objs.size := Nat.ne_of_lt (Heap.lt_size el)
    refine call_listRev (items := its.toArray) (I.ok.hd hc) ⟨_, Heap.get?_push_size _ rfl, rfl, rfl⟩ (Heap.IsList.at p.isList fun o e => Heap.get?_push_of_some _ e) (by rw [List.size_toArray, ← vr.length]; exact hz) nl fun h' tk acc c kk hS' hi => ?_
    have sz : (s1.heap.push (revObj l ((its.toArray.size : Int) - 1))).objs.size = s1.heap.objs.size + 1 := Heap.size_push ..
    rw [sz] at hS' ⊢
    have old : ∀ b o, s1.heap.get? b = some o → h'.get? b = some o := fun b o e => kk b o (Nat.ne_of_lt (Heap.lt_size e)) (Heap.get?_push_of_some _ e)
    have ea : acc = its.reverse.toArray := by
      have := items_rev hi
      rw [← Array.toArray_toList (xs := acc), this]
    refine ⟨.ref (s1.heap.objs.size + 1), _, I1.laid (a := s1.heap.objs.size + 1) (o := .lst xs.reverse) (t' := tk) old (Nat.le_succ _) ⟨by rw [List.length_reverse]; exact hz, its.reverse, c, vr.reverse, by rw [← ea]; exact hS'⟩, rfl, q _ (I1.hok.fresh (Nat.le_succ _))⟩
  · exact hq.elim
end
end L2

namespace L2
open PySem PySem.Spec PyProof.Rows
section
variable {P : Program} {w : World} {K : PySem.W.Frag} {mg : Str → Option Value} {base : Heap}
theorem Fun.okO {x qual : Str} {st : Stmt} {f : Addr} {fd : FuncData} {N ps : List Str} {k : Nat} {sp : Sp} (F : Fun K x qual st f fd) (S : FnScope N ps (defScope st)) (len : ∀ vs H Q E, sp vs H Q E → vs.length = ps.length)
    (hbody : ∀ (cdv : Value) (A : Around) (outer : List Env) (s : Shared) (H : Hp) (vs : List V) (Q : VK) (E : XK), Room k (A.deeper (envOfC qual (defScope st) s.heap.objs.size f cdv)) → sp vs H Q E →
      ∃ t, PSs (cxO P w K mg base N qual (defScope st) f cdv A outer s H E) (defBody st) t ∧ t { nx := fun _ H' => Q .non H', rt := Q } (start N vs) H) : FnOk P w K mg base (CXO P w) (k + 1) f fd ps sp := by
  obtain ⟨oc, od, kV, doc, pm, an, cdv, ct, osl, rfl, lk, hcd⟩ := F.ex
  exact fn_of lk hcd S len fun A outer s H vs Q E hr hsp => hbody cdv A outer s H vs Q E hr hsp
end
structure Df (K : PySem.W.Frag) (mg : Str → Option Value) (x : Str) (f : Addr) (fd : FuncData) (ps : List Str) : Prop where
  mg : mg x = some (.ref f)
  kp : PySem.W.keepIn K (.ref f) = true
  bi : Binds K fd ps []
section
variable {X : Cx} {k : Nat} {f : Addr} {fd : FuncData} {ps : List Str} {sp : Sp} {x : Str} {p pos : Pos} {e : Expr} {es : List Expr} {t : TA} {E : XK}
theorem pcall (G : FnOk X.prog X.w X.K X.mg X.base CX0 k f fd ps sp) (D : Df X.K X.mg x f fd ps) (hr : Room k X.A) (ha : PA X (e :: es) t) (hg : Gl X x := by rfl) (hdb : (x == ("__debug__" : Str)) = false := by decide)
    (he : starEach (e :: es) X.env = (false, eval e X.env) :: starEach es X.env := by rfl) (hpl : (backTo pos (starEach es X.env)).any (·.1) = false := by rfl) : PE X (.Call (.Name x p) (e :: es) [] pos) (tCall sp [] E0 t) :=
  pe_call G hr hg D.mg D.kp D.bi .nil pass0 ha hdb he hpl
theorem pcallO (G : FnOk X.prog X.w X.K X.mg X.base (CXO X.prog X.w) k f fd ps sp) (D : Df X.K X.mg x f fd ps) (hr : Room k X.A) (hx : Passes (CXO X.prog X.w) X E) (ha : PA X (e :: es) t) (hg : Gl X x := by rfl) (hdb : (x == ("__debug__" : Str)) = false := by decide)
    (he : starEach (e :: es) X.env = (false, eval e X.env) :: starEach es X.env := by rfl) (hpl : (backTo pos (starEach es X.env)).any (·.1) = false := by rfl) : PE X (.Call (.Name x p) (e :: es) [] pos) (tCall sp [] E t) :=
  pe_call G hr hg D.mg D.kp D.bi .nil hx ha hdb he hpl
end
theorem Inv.big {X : Cx} {pins : List (Addr × Obj)} {σ : St} {H : Hp} {s : Shared} (I : Inv X pins σ H s) : sysModules < s.heap.objs.size := by
  have h : mainGlobals < s.heap.objs.size := (I.mod.glob.keeps I.bk).lt
  exact Nat.lt_trans (by decide) h
theorem dk_empty {P : Program} {w : World} {H : Hp} (h : Heap) (hb : sysModules < h.objs.size) : ObjOk P w H (h.push { cls := .type "dict", data := .dict #[] }) h.objs.size (.dK []) :=
  ⟨Nat.zero_le _, beq_eq_false_iff_ne.mpr (Ne.symm (Nat.ne_of_lt hb)), [], .nil, Heap.DictOf.new h⟩
def tDNewK : TE := fun _ H Q => ∀ p, H p = none → Q (.ref p) (upd H p (.dK []))
theorem pe_dnewK {X : Cx} {pos : Pos} : PE X (.Dict [] [] pos) tDNewK := fun pins s σ H Q I h =>
  wpAny_Dict_empty ⟨.ref s.heap.objs.size, _, I.laid (a := s.heap.objs.size) (o := .dK []) (t' := s.toks) (fun _ _ q => Heap.get?_push_of_some _ q) (Nat.le_refl _) (dk_empty s.heap I.big), rfl, h _ (I.hok.fresh (Nat.le_refl _))⟩

theorem same_new {H : Hp} {p : Addr} (h : H p = none) (o : HO) : Same H (upd H p o) := fun b u q => by rw [upd_ne (ne_of_none q h)]; exact q
theorem Same.upd_new {H H' : Hp} {p : Addr} (e : Same H H') (h : H p = none) (o : HO) : Same H (upd H' p o) := fun b u q => by rw [upd_ne (ne_of_none q h)]; exact e b u q

def Thing (K : PySem.W.Frag) (H : Hp) (x : V) : Prop := ∃ T : String, TyOf K H x (.type T)
def isIntV : V → Bool
  | .int _ => true
  | .bl _ => true
  | _ => false
def isBlV : V → Bool
  | .bl _ => true
  | _ => false
def wholeB : V → Bool
  | .int i => decide (0 ≤ i)
  | _ => false
theorem Thing.isInt {K : PySem.W.Frag} {H : Hp} {x : V} (h : Thing K H x) : ∃ t, TyOf K H x t ∧ PySem.W.kitOne K t (.type "int") = some (isIntV x) := by
  obtain ⟨T, h⟩ := h
  refine ⟨_, h, ?_⟩
  generalize hT : Value.type T = t at h
  cases h <;> first | rfl | cases hT
theorem Thing.isBl {K : PySem.W.Frag} {H : Hp} {x : V} (h : Thing K H x) : ∃ t, TyOf K H x t ∧ PySem.W.kitOne K t (.type "bool") = some (isBlV x) := by
  obtain ⟨T, h⟩ := h
  refine ⟨_, h, ?_⟩
  generalize hT : Value.type T = t at h
  cases h <;> first | rfl | cases hT
theorem Thing.int {K : PySem.W.Frag} {H : Hp} (i : Int) : Thing K H (.int i) := ⟨_, .int i⟩
theorem Thing.same {K : PySem.W.Frag} {H H' : Hp} {x : V} (h : Thing K H x) (e : Same H H') : Thing K H' x := by
  obtain ⟨T, h⟩ := h
  refine ⟨T, ?_⟩
  generalize hT : Value.type T = t at h
  cases h with
  | non => cases hT; exact .non
  | bl x => cases hT; exact .bl x
  | int i => cases hT; exact .int i
  | str x => cases hT; exact .str x
  | flt x => cases hT; exact .flt x
  | lst q => cases hT; exact .lst (e _ _ q)
  | frz q => cases hT; exact .frz (e _ _ q)
  | tup q => cases hT; exact .tup (e _ _ q)
  | dK q => cases hT; exact .dK (e _ _ q)
  | dT q => cases hT; exact .dT (e _ _ q)
  | ins q => cases hT
end L2

namespace Sp
open PySem L2 SpM

structure Bi (mg : Str → Option Value) : Prop where
  isi : mg "isinstance" = none
  int : mg "int" = none
  bool : mg "bool" = none
  len : mg "len" = none
  range : mg "range" = none
  all : mg "all" = none
  sum : mg "sum" = none
  zip : mg "zip" = none
  list : mg "list" = none
  rev : mg "reversed" = none
  max : mg "max" = none
  str : mg "str" = none
  tuple : mg "tuple" = none
  min : mg "min" = none
  sorted : mg "sorted" = none
  set : mg "set" = none
  dict : mg "dict" = none
  enum : mg "enumerate" = none

abbrev lim : Nat := 100000
theorem smallL {n : Nat} (h : n ≤ lim) : n < sizeLine := Nat.lt_of_le_of_lt h (by decide)
theorem small {n : Nat} (h : n ≤ 1000) : n ≤ sizeLine := Nat.le_of_lt (small1000 h)
def rowV (n : Nat) : List V := (row n).map V.int
theorem rowV_length (n : Nat) : (rowV n).length = n := by simp [rowV, row_length]

def rLen (K : PySem.W.Frag) : List V → Hp → VK → Prop := fun xs H Q => ∃ p ys, xs = [.ref p] ∧ (SqL K H p ys ∨ SqT K H p ys) ∧ Q (.int ys.length) H
def rListOf (K : PySem.W.Frag) : List V → Hp → VK → Prop := fun xs H Q => ∃ p ys, xs = [.ref p] ∧ (SqL K H p ys ∨ SqT K H p ys) ∧ ∀ l, H l = none → Q (.ref l) (upd H l (.lst ys))
def rInt1 : List V → Hp → VK → Prop := fun xs H Q => (∃ i, xs = [.int i] ∧ Q (.int i) H) ∨ ∃ k, xs = [.bl k] ∧ Q (.int (if k then 1 else 0)) H
section
variable {X : Cx}
theorem pglob {x : Str} {v : V} {u : Value} {pos : Pos} (hm : X.mg x = some u) (r : RelV v u := by rfl) (hg : Gl X x := by rfl) (hd : (x == ("__debug__" : Str)) = false := by decide) : PE X (.Name x pos) (tC v) := pe_glob hg hm r hd
theorem ptype {x : Str} {n : String} {pos : Pos} (hm : X.mg x = none) (hv : bootBuiltins x = some (.type n)) (hg : Gl X x := by rfl) (hn : x ≠ "__name__" := by decide) (hd : (x == ("__debug__" : Str)) = false := by decide) : PE X (.Name x pos) (tC (.ty n)) := pe_bltn hg hm hv rfl hn hd
end
section
variable {X : Cx} {a ce : Expr} {ta tc : TE} {p pos : Pos}
theorem pisi (hm : X.mg "isinstance" = none) (ha : PE X a ta) (hc : PE X ce tc) (hg : Gl X "isinstance" := by rfl)
    (he : starEach (a :: [ce]) X.env = (false, eval a X.env) :: starEach [ce] X.env := by rfl) (he2 : starEach (ce :: []) X.env = (false, eval ce X.env) :: starEach [] X.env := by rfl) (hpl : (backTo pos (starEach [ce] X.env)).any (·.1) = false := by rfl) :
    PE X (.Call (.Name "isinstance" p) [a, ce] [] pos) (tCB (rIsi X.K) (tCons ta (tCons tc tNil))) :=
  pe_callB call_isi hg hm PyProof.Rows.Boot.«isinstance» (pa_cons ha (pa_cons hc pa_nil he2) he) (by decide) (by decide) he hpl
theorem pisiX (hm : X.mg "isinstance" = none) (ha : PE X a ta) (hc : PE X ce tc) (hg : Gl X "isinstance" := by rfl)
    (he : starEach (a :: [ce]) X.env = (false, eval a X.env) :: starEach [ce] X.env := by rfl) (he2 : starEach (ce :: []) X.env = (false, eval ce X.env) :: starEach [] X.env := by rfl) (hpl : (backTo pos (starEach [ce] X.env)).any (·.1) = false := by rfl) :
    PE X (.Call (.Name "isinstance" p) [a, ce] [] pos) (tCB (rIsiX X.K) (tCons ta (tCons tc tNil))) :=
  pe_callB call_isiX hg hm PyProof.Rows.Boot.«isinstance» (pa_cons ha (pa_cons hc pa_nil he2) he) (by decide) (by decide) he hpl
theorem plen (hm : X.mg "len" = none) (ha : PE X a ta) (hg : Gl X "len" := by rfl)
    (he : starEach (a :: []) X.env = (false, eval a X.env) :: starEach [] X.env := by rfl) (hpl : (backTo pos (starEach [] X.env)).any (·.1) = false := by rfl) :
    PE X (.Call (.Name "len" p) [a] [] pos) (tCB (rLen X.K) (tCons ta tNil)) :=
  pe_callB call_len_seq hg hm PySem.boot_len (pa_cons ha pa_nil he) (by decide) (by decide) he hpl
end

section
variable {X : Cx} {a : Expr} {ta : TE} {p pos : Pos}
theorem pall (hm : X.mg "all" = none) (ha : PE X a ta) (hc : X.calm = true := by rfl) (hg : Gl X "all" := by rfl)
    (he : starEach (a :: []) X.env = (false, eval a X.env) :: starEach [] X.env := by rfl) (hpl : (backTo pos (starEach [] X.env)).any (·.1) = false := by rfl) :
    PE X (.Call (.Name "all" p) [a] [] pos) (tCB (rAll X.K) (tCons ta tNil)) := pe_callB (call_all hc) hg hm PyProof.Rows.Boot.«all» (pa_cons ha pa_nil he) (by decide) (by decide) he hpl
theorem psum (hm : X.mg "sum" = none) (ha : PE X a ta) (hc : X.calm = true := by rfl) (hg : Gl X "sum" := by rfl)
    (he : starEach (a :: []) X.env = (false, eval a X.env) :: starEach [] X.env := by rfl) (hpl : (backTo pos (starEach [] X.env)).any (·.1) = false := by rfl) :
    PE X (.Call (.Name "sum" p) [a] [] pos) (tCB (rSum X.K) (tCons ta tNil)) := pe_callB (call_sum hc) hg hm PyProof.Rows.Boot.«sum» (pa_cons ha pa_nil he) (by decide) (by decide) he hpl
theorem plist (hm : X.mg "list" = none) (ha : PE X a ta) (hg : Gl X "list" := by rfl)
    (he : starEach (a :: []) X.env = (false, eval a X.env) :: starEach [] X.env := by rfl) (hpl : (backTo pos (starEach [] X.env)).any (·.1) = false := by rfl) :
    PE X (.Call (.Name "list" p) [a] [] pos) (tCB (rListOf X.K) (tCons ta tNil)) :=
  pe_callTy call_list_of hg hm PyProof.Rows.Boot.«list» (pa_cons ha pa_nil he) (by decide) (by decide) he hpl
theorem pint (hm : X.mg "int" = none) (ha : PE X a ta) (hg : Gl X "int" := by rfl)
    (he : starEach (a :: []) X.env = (false, eval a X.env) :: starEach [] X.env := by rfl) (hpl : (backTo pos (starEach [] X.env)).any (·.1) = false := by rfl) :
    PE X (.Call (.Name "int" p) [a] [] pos) (tCB rInt1 (tCons ta tNil)) :=
  pe_callTy call_int1 hg hm PyProof.Rows.Boot.«int» (pa_cons ha pa_nil he) (by decide) (by decide) he hpl
theorem mt_bits : MtR X "int.bit_length" (fun x xs H Q => ∃ i, x = .int i ∧ xs = [] ∧ Q (.int (Builtin.Int.intBits i : Nat)) H) := by
  intro pins s σ H x xs v us Q I rx rs h
  obtain ⟨i, rfl, rfl, q⟩ := h
  obtain ⟨t, rfl⟩ := rx
  cases rs
  exact PyProof.Rows.call_int_bit_length ⟨.int _, H, I.tok _, ⟨_, rfl⟩, q⟩
end

def spWhole (K : PySem.W.Frag) : Sp := fun vs H Q _ => ∃ x, vs = [x] ∧ Thing K H x ∧ Q (.bl (wholeB x)) H
def spNeed (K : PySem.W.Frag) : Sp := fun vs H Q _ => ∃ x, vs = [x] ∧ Thing K H x ∧ wholeB x = true ∧ Q .non H
def spBad (K : PySem.W.Frag) (C : Addr) : Sp := fun vs H _ E => ∃ x, vs = [x] ∧ Thing K H x ∧ wholeB x = false ∧ E (.ref C) none H
def spMembers (_ : PySem.W.Frag) : Sp := fun vs H Q _ => ∃ n : Nat, vs = [.int n] ∧ n ≤ lim ∧ ∀ r H', Same H H' → H r = none → H' r = some (.lst (rowV n)) → Q (.ref r) H'
def spMember (_ : PySem.W.Frag) : Sp := fun vs H Q _ => ∃ n : Nat, vs = [.int n] ∧ n < lim ∧ ∀ H', Same H H' → Q (.int (mem n)) H'
def pairB : V → V → Bool
  | .int i, .int j => decide (2 ≤ i - j)
  | _, _ => false
def formV (xs : List V) : Bool := xs.all wholeB && (List.zipWith pairB xs (xs.drop 1)).all id
def iv (ns : List Int) : List V := ns.map V.int
theorem iv_length (ns : List Int) : (iv ns).length = ns.length := by simp [iv]
theorem formV_int : ∀ {ns : List Int}, Form ns → formV (iv ns) = true
  | [], _ => rfl
  | [a], h => by
    have h' : 0 ≤ a := h
    simp [formV, iv, wholeB, h']
  | a :: b :: r, h => by
    have ih := formV_int h.2
    have h0 := h.2.head
    have h1 := h.1
    unfold formV at ih ⊢
    simp only [iv, List.map_cons, List.all_cons, List.drop_succ_cons, List.drop_zero, List.zipWith_cons_cons, Bool.and_eq_true, wholeB, pairB, id, decide_eq_true_eq] at ih ⊢
    exact ⟨⟨by omega, ih.1⟩, by omega, ih.2⟩
def spIsForm (K : PySem.W.Frag) : Sp := fun vs H Q _ => ∃ (a : Addr) (xs : List V), vs = [.ref a] ∧ H a = some (.lst xs) ∧ xs.length ≤ lim ∧ (∀ y ∈ xs, Thing K H y) ∧ ∀ H', Same H H' → Q (.bl (formV xs)) H'
def spNeedForm (_ : PySem.W.Frag) : Sp := fun vs H Q _ => ∃ (a : Addr) (ns : List Int), vs = [.ref a] ∧ H a = some (.lst (iv ns)) ∧ ns.length ≤ lim ∧ Form ns ∧ ∀ H', Same H H' → Q .non H'
def told (H : Hp) (Q : VK) (xs : List V) : Prop := ∀ r H', Same H H' → H r = none → H' r = some (.lst xs) → Q (.ref r) H'
def spFormOf (_ : PySem.W.Frag) : Sp := fun vs H Q _ => ∃ n : Int, vs = [.int n] ∧ 0 ≤ n ∧ Builtin.Int.intBits n ≤ 50000 ∧ ∀ fs, Form fs → val fs = n → told H Q (iv fs)
def spNumberOf (_ : PySem.W.Frag) : Sp := fun vs H Q _ => ∃ (a : Addr) (ns : List Int), vs = [.ref a] ∧ H a = some (.lst (iv ns)) ∧ ns.length ≤ lim ∧ Form ns ∧ (∀ p ∈ ns, p < lim) ∧ ∀ H', Same H H' → Q (.int (val ns)) H'
def spMoved (f : List Int → List Int) : Sp := fun vs H Q _ => ∃ (a : Addr) (ns : List Int), vs = [.ref a] ∧ H a = some (.lst (iv ns)) ∧ ns.length ≤ lim ∧ Form ns ∧ told H Q (iv (f ns))
def spLaw (K : PySem.W.Frag) : Sp := fun vs H Q _ => ∃ (a : Addr) (ns : List Int), vs = [.ref a] ∧ SqL K H a (ns.map V.int) ∧ ns.length ≤ 63 ∧ ∀ H', Q (.bl true) H'
theorem comp_row {K : PySem.W.Frag} {a b : Addr} {ns : List Int} {m : Nat} {σ : St} {fr : List Nat} {H1 : Hp} {Q : VK} {D : Addr} (hD : H1 D = none) (ea : H1 a = some (.lst (iv ns))) (eb : H1 b = some (.lst (rowV m))) (hz : ns.length ≤ lim) (hp : ∀ p ∈ ns, 0 ≤ p ∧ p < m)
    (h0 : compSt σ 1 fr = [none, some (.ref b)]) (hq : ∀ H', Same H1 H' → H' D = some (.lst ((ns.map fun p => mem p.toNat).map V.int)) → Q (.ref D) H') : compRun (Itl K a) (gName 0) tYes (tOp (rIxL K) (tVar 1) (tVar 0)) 1 fr σ H1 D Q := by
  refine comp_map (fun x => match x with | .int i => .int (mem i.toNat) | _ => .non) hD (SqL.of ea) (by rw [iv_length]; exact smallL hz) h0 (fun i x H3 hx sm R hR => ?_) fun H3 sm e4 => ?_
  · obtain ⟨y, hy, rfl⟩ : ∃ y, y ∈ ns ∧ V.int y = x := List.mem_map.mp (List.mem_of_getElem? hx)
    have y0 := hp y hy
    obtain ⟨j, hj⟩ : ∃ j : Nat, y = (j : Int) := ⟨y.toNat, by omega⟩
    subst hj
    refine ⟨_, rfl, _, rfl, b, _, _, _, rfl, rfl, SqL.of (sm _ _ eb), atI_nat (v := .int (mem j)) ?_, hR _ (Same.refl _)⟩
    unfold rowV
    rw [List.getElem?_map, row_get (by omega)]
    rfl
  · refine hq H3 sm ?_
    rw [e4]
    unfold iv
    rw [List.map_map, List.map_map]
    rfl
theorem iv_at {ns : List Int} {i : Nat} {x : Int} (h : ns[i]? = some x) : atI (iv ns) (i : Int) = some (.int x) := atI_nat (by unfold iv; rw [List.getElem?_map, h]; rfl)
theorem form_step : ∀ {ns : List Int} {i : Nat} {a b : Int}, Form ns → ns[i]? = some a → ns[i + 1]? = some b → b + 2 ≤ a
  | [], _, _, _, _, h, _ => by simp at h
  | [x], i, _, _, _, _, h => by simp at h
  | x :: y :: r, 0, a, b, hf, h1, h2 => by
    have e1 : x = a := by simpa using h1
    have e2 : y = b := by simpa using h2
    have := hf.1
    omega
  | x :: y :: r, i + 1, a, b, hf, h1, h2 => form_step (ns := y :: r) (i := i) hf.2 (by simpa using h1) (by simpa using h2)
theorem form_len : ∀ {a : Int} {r : List Int}, Form (a :: r) → (r.length : Int) ≤ a
  | a, [], h => by have h' : 0 ≤ a := h; simpa using h'
  | a, b :: r, h => by
    have ih := form_len h.2
    have := h.1
    simp only [List.length_cons]
    omega
theorem form_length {f : List Int} {k : Nat} (hf : Form f) (h : ∀ p ∈ f, p < k) : f.length ≤ k := by
  cases f with
  | nil => simp
  | cons a r =>
    have h1 := form_len hf
    have h2 := h a (List.mem_cons_self ..)
    simp only [List.length_cons]
    omega
theorem form_bound {f : List Int} {k : Nat} (hf : Form f) (h : val f < mem k) : ∀ p ∈ f, p < k := by
  cases f with
  | nil => simp
  | cons a r =>
    intro p hp
    have ha : p ≤ a := by
      rcases List.mem_cons.mp hp with z | z
      · omega
      · have := hf.mem_le p z
        omega
    have h0 := hf.head
    have h1 := (val_lt hf).1
    by_cases c : a < k
    · omega
    · have := mem_mono (show k ≤ a.toNat by omega)
      omega
theorem bits_mem {n : Int} {k m : Nat} (h0 : 0 ≤ n) (h : n < mem k) (hm : k ≤ m) : Builtin.Int.intBits n ≤ m := by
  refine Nat.le_trans (intBits_le_iff.mpr ?_) hm
  have h1 := mem_le_two_pow k
  have h2 : ((n.natAbs : Nat) : Int) < ((2 ^ k : Nat) : Int) := by
    rw [Int.natCast_pow]
    show _ < (2 : Int) ^ k
    omega
  exact Int.ofNat_lt.mp h2
theorem cut_iv (ns : List Int) (i j : Nat) : ∃ cs : List Int, cutV (ns.map V.int) (some ((i : Nat) : Int)) (some ((j : Nat) : Int)) = iv cs ∧ cs.length ≤ j - i := by
  refine ⟨((ns.drop (min i ns.length)).take (min j ns.length - min i ns.length)), ?_, ?_⟩
  · unfold cutV iv
    rw [HT.sIx_nat, HT.sIx_nat, List.length_map, List.map_take, List.map_drop]
  · rw [List.length_take]
    omega
theorem iv_snoc (l : List Int) (x : Int) : iv (l ++ [x]) = iv l ++ [.int x] := by
  unfold iv
  rw [List.map_append]
  rfl
theorem iv_reverse (l : List Int) : (iv l).reverse = iv l.reverse := by unfold iv; rw [List.map_reverse]
end Sp

namespace L2
open PySem PySem.Spec PyProof.Rows
def NewO (H : Hp) (Q : VK) (o : HO) : Prop := ∀ p, H p = none → Q (.ref p) (upd H p o)
def NewZ (A : Prop) (H : Hp) (Q : VK) (o : HO) : Prop := A ∧ ∀ p, H p = none → Q (.ref p) (upd H p o)
section
variable {σ : St} {H H1 H2 : Hp} {Q : VK} {v x y : V} {i j : Nat} {m n : Int} {ta tb tc : TE} {r r' : R2} {b : Bool} {A B : Prop} {p q : Prop} {D : Ends} {t u : TS} {K : PySem.W.Frag} {a c : Addr} {xs ys : List V}
theorem rd_var (h : σ[i]? = some (some v)) (q : Q v H) : tVar i σ H Q := ⟨v, h, q⟩
theorem rd_c (q : Q v H) : tC v σ H Q := q
theorem rd_op (h : ta σ H fun x H1 => tb σ H1 fun y H2 => r x y H2 Q) : tOp r ta tb σ H Q := h
theorem rd_i0 {g : Int → Int → V} (q : Q (g m n) H) : rI0 g (.int m) (.int n) H Q := ⟨_, _, rfl, rfl, q⟩
theorem rd_i {C : Int → Int → Prop} {g : Int → Int → V} (c : C m n) (q : Q (g m n) H) : rI C g (.int m) (.int n) H Q := ⟨_, _, rfl, rfl, c, q⟩
theorem rd_un {r : V → Hp → VK → Prop} (h : ta σ H fun x H1 => r x H1 Q) : tUn r ta σ H Q := h
theorem rd_u {g : Int → V} (q : Q (g m) H) : rU g (.int m) H Q := ⟨_, rfl, q⟩
theorem rd_eqI (q : Q (.bl (decide (m = n))) H) : rEq (.int m) (.int n) H Q := ⟨rfl, by
  rw [show decide (V.int m = V.int n) = decide (m = n) from decide_eq_decide.mpr ⟨fun e => V.int.inj e, fun e => by rw [e]⟩]; exact q⟩
theorem rd_neI (q : Q (.bl (!decide (m = n))) H) : rNe (.int m) (.int n) H Q := ⟨rfl, by
  rw [show decide (V.int m = V.int n) = decide (m = n) from decide_eq_decide.mpr ⟨fun e => V.int.inj e, fun e => by rw [e]⟩]; exact q⟩
theorem rd_eqB {b c : Bool} (q : Q (.bl (decide (b = c))) H) : rEq (.bl b) (.bl c) H Q := ⟨rfl, by
  rw [show decide (V.bl b = V.bl c) = decide (b = c) from decide_eq_decide.mpr ⟨fun e => V.bl.inj e, fun e => by rw [e]⟩]; exact q⟩
theorem rd_neB {b c : Bool} (q : Q (.bl (!decide (b = c))) H) : rNe (.bl b) (.bl c) H Q := ⟨rfl, by
  rw [show decide (V.bl b = V.bl c) = decide (b = c) from decide_eq_decide.mpr ⟨fun e => V.bl.inj e, fun e => by rw [e]⟩]; exact q⟩
theorem rd_eqS {b c : Str} (q : Q (.bl (decide (b = c))) H) : rEq (.str b) (.str c) H Q := ⟨rfl, by
  rw [show decide (V.str b = V.str c) = decide (b = c) from decide_eq_decide.mpr ⟨fun e => V.str.inj e, fun e => by rw [e]⟩]; exact q⟩
theorem rd_neS {b c : Str} (q : Q (.bl (!decide (b = c))) H) : rNe (.str b) (.str c) H Q := ⟨rfl, by
  rw [show decide (V.str b = V.str c) = decide (b = c) from decide_eq_decide.mpr ⟨fun e => V.str.inj e, fun e => by rw [e]⟩]; exact q⟩
theorem rd_bl {R : Bool → Hp → Prop} (q : R b H) : ∃ k, V.bl b = V.bl k ∧ R k H := ⟨_, rfl, q⟩
theorem rd_blp {R : Bool → Prop} (q : R b) : ∃ k, V.bl b = V.bl k ∧ R k := ⟨_, rfl, q⟩
theorem rd_test {R : Bool → Hp → Prop} (h : ta σ H fun x H' => ∃ k, x = .bl k ∧ R k H') : tTest ta σ H R := h
theorem rd_tB {R : Bool → Hp → Prop} (h : ta σ H fun x H' => ∃ k, x = .bl k ∧ R k H') : tB ta σ H R := h
theorem rd_not {c : TT} {R : Bool → Hp → Prop} (h : c σ H fun c H1 => R (!c) H1) : tNot c σ H R := h
theorem rd_notV (h : ta σ H fun x H1 => ∃ c, x = .bl c ∧ Q (.bl (!c)) H1) : tNotV ta σ H Q := h
theorem rd_and {c d : TT} {R : Bool → Hp → Prop} (h : c σ H fun c H1 => if c = true then d σ H1 R else R false H1) : tAnd c d σ H R := h
theorem rd_or {c d : TT} {R : Bool → Hp → Prop} (h : c σ H fun c H1 => if c = true then R true H1 else d σ H1 R) : tOr c d σ H R := h
theorem rd_andV (h : ta σ H fun x H1 => ∃ c, x = .bl c ∧ if c = true then tb σ H1 Q else Q (.bl false) H1) : tAndV ta tb σ H Q := h
theorem rd_orV (h : ta σ H fun x H1 => ∃ c, x = .bl c ∧ if c = true then Q (.bl true) H1 else tb σ H1 Q) : tOrV ta tb σ H Q := h
theorem rd_ifE {c : TT} (h : c σ H fun c H1 => if c = true then ta σ H1 Q else tb σ H1 Q) : tIf c ta tb σ H Q := h
theorem rd_ifS {c : TT} (h : c σ H fun b H1 => if b = true then t D σ H1 else u D σ H1) : tIfS c t u D σ H := h
theorem rd_seq (h : t { D with nx := u D } σ H) : tSeq t u D σ H := h
theorem rd_next (h : D.nx σ H) : tNext D σ H := h
theorem rd_drop (h : ta σ H fun _ H1 => D.nx σ H1) : tDrop ta D σ H := h
theorem rd_ret (h : ta σ H D.rt) : tRet ta D σ H := h
theorem rd_asg {g : TG} (h : ta σ H fun x H1 => g x σ H1 D.nx) : tAsg ta g D σ H := h
theorem rd_gName {R : St → Hp → Prop} (h : R (σ.set i (some v)) H) : gName i v σ H R := h
theorem rd_gNameE {σ' : St} {R : St → Hp → Prop} (e : σ.set i (some v) = σ') (h : R σ' H) : gName i v σ H R := by subst e; exact h
theorem rd_start {N : List Str} {vs : List V} {σ' : St} (e : start N vs = σ') (h : t D σ' H) : t D (start N vs) H := by rw [e]; exact h
theorem rd_par {ta : TA} (h : ta σ H fun vs H1 => ∃ v w, vs = [v, w] ∧ D.nx ((σ.set i (some v)).set j (some w)) H1) : tPar i j ta D σ H := h
theorem rd_par2 {R : V → V → Prop} (h : R x y) : ∃ v w, [x, y] = [v, w] ∧ R v w := ⟨_, _, rfl, h⟩
theorem rd_nil {R : List V → Hp → Prop} (h : R [] H) : tNil σ H R := h
theorem rd_cons {tr : TA} {R : List V → Hp → Prop} (h : ta σ H fun x H1 => tr σ H1 fun xs H2 => R (x :: xs) H2) : tCons ta tr σ H R := h
theorem rd_cb {t : TA} {r : List V → Hp → VK → Prop} (h : t σ H fun vs H1 => r vs H1 Q) : tCB r t σ H Q := h
theorem rd_call {sp : Sp} {E : XK} {t : TA} (h : t σ H fun vs H1 => sp vs H1 Q E) : tCall sp [] E t σ H Q := by
  unfold tCall
  simp only [List.append_nil]
  exact h
theorem rd_noPart {R : Option Int → Hp → Prop} (h : R none H) : tNoPart σ H R := h
theorem rd_part {R : Option Int → Hp → Prop} (h : ta σ H fun x H1 => ∃ i, x = .int i ∧ R (some i) H1) : tPart ta σ H R := h
theorem rd_partI {R : Int → Prop} (h : R n) : ∃ i, V.int n = .int i ∧ R i := ⟨_, rfl, h⟩
theorem rd_sl {r : V → Option Int → Option Int → Hp → VK → Prop} {tl th : TO} (h : ta σ H fun x H1 => tl σ H1 fun l H2 => th σ H2 fun u H3 => r x l u H3 Q) : tSl r ta tl th σ H Q := h
theorem rd_bm {T : String} {r : V → List V → Hp → VK → Prop} {t : TA} (h : ta σ H fun x H1 => tyV K T x H1 ∧ t σ H1 fun xs H2 => r x xs H2 Q) : tBM K T r ta t σ H Q := h
theorem rd_bm0 {T : String} {r : V → List V → Hp → VK → Prop} (h : ta σ H fun x H1 => tyV K T x H1 ∧ r x [] H1 Q) : tBM0 K T r ta σ H Q := h
theorem rd_tyL (e : SqL K H a xs) (h : A) : tyV K "list" (.ref a) H ∧ A := ⟨.inl ⟨rfl, _, e⟩, h⟩
theorem rd_append {R : VK} (e : H a = some (.lst xs)) (hz : xs.length < sizeLine) (q : R .non (upd H a (.lst (xs ++ [y])))) : rAppend (.ref a) [y] H R := ⟨a, xs, y, rfl, rfl, e, hz, q⟩
theorem rd_ixL (e : SqL K H a xs) (h : atI xs n = some v) (q : Q v H) : rIxL K (.ref a) (.int n) H Q := ⟨a, xs, n, v, rfl, rfl, e, h, q⟩
theorem rd_ixT (e : SqT K H a xs) (h : atI xs n = some v) (q : Q v H) : rIxT K (.ref a) (.int n) H Q := ⟨a, xs, n, v, rfl, rfl, e, h, q⟩
theorem rd_len (e : SqL K H a xs) (q : Q (.int xs.length) H) : Sp.rLen K [.ref a] H Q := ⟨a, xs, rfl, .inl e, q⟩
theorem rd_lenT (e : SqT K H a xs) (q : Q (.int xs.length) H) : Sp.rLen K [.ref a] H Q := ⟨a, xs, rfl, .inr e, q⟩
theorem rd_listOf (e : SqL K H a xs) (q : NewO H Q (.lst xs)) : Sp.rListOf K [.ref a] H Q := ⟨a, xs, rfl, .inl e, q⟩
theorem rd_slL {lo hi : Option Int} (e : SqL K H a xs) (q : NewO H Q (.lst (cutV xs lo hi))) : rSlL K (.ref a) lo hi H Q := ⟨a, xs, rfl, e, q⟩
theorem rd_int1 (q : Q (.int n) H) : Sp.rInt1 [.int n] H Q := .inl ⟨_, rfl, q⟩
theorem rd_intB (q : Q (.int (if b then 1 else 0)) H) : Sp.rInt1 [.bl b] H Q := .inr ⟨_, rfl, q⟩
theorem rd_sum {ns : List Int} (e : SqL K H a (ns.map V.int)) (q : Q (.int ns.sum) H) : rSum K [.ref a] H Q := ⟨a, ns, rfl, e, q⟩
theorem rd_all {bs : List Bool} (e : SqL K H a (bs.map V.bl)) (q : Q (.bl (bs.all id)) H) : rAll K [.ref a] H Q := ⟨a, bs, rfl, e, q⟩
theorem rd_eqL {ns ms : List Int} (e : SqL K H a (ns.map V.int)) (e' : SqL K H c (ms.map V.int)) (q : Q (.bl (decide (ns = ms))) H) : rEqL K (.ref a) (.ref c) H Q := ⟨a, c, ns, ms, rfl, rfl, e, e', q⟩
theorem rd_neL {ns ms : List Int} (e : SqL K H a (ns.map V.int)) (e' : SqL K H c (ms.map V.int)) (q : Q (.bl (!decide (ns = ms))) H) : rNeL K (.ref a) (.ref c) H Q := ⟨a, c, ns, ms, rfl, rfl, e, e', q⟩
theorem rd_isiL {cv : Value} {k : Bool} (e : H a = some (.lst xs)) (hc : clsV x = some cv) (hk : PySem.W.kitOne K (.type "list") cv = some k) (q : Q (.bl k) H) : rIsi K [.ref a, x] H Q := ⟨_, _, cv, _, k, rfl, hc, .lst e, hk, q⟩
theorem rd_isi {cv tv : Value} {k : Bool} (ty : TyOf K H v tv) (hc : clsV x = some cv) (hk : PySem.W.kitOne K tv cv = some k) (q : Q (.bl k) H) : rIsi K [v, x] H Q := ⟨_, _, cv, _, k, rfl, hc, ty, hk, q⟩
theorem rd_truL {R : Bool → Prop} (e : SqL K H a xs) (q : R (!xs.isEmpty)) : ∃ k, TruV K (.ref a) H k ∧ R k := ⟨_, .inl ⟨xs, e, rfl⟩, q⟩
theorem rd_truB {R : Bool → Prop} (q : R b) : ∃ k, TruV K (.bl b) H k ∧ R k := ⟨_, rfl, q⟩
theorem rd_cat (e : H a = some (.lst xs)) (e' : H c = some (.lst ys)) (hz : xs.length + ys.length ≤ sizeLine) (q : NewO H Q (.lst (xs ++ ys))) : rCat (.ref a) (.ref c) H Q := ⟨a, c, xs, ys, rfl, rfl, e, e', hz, q⟩
theorem rd_lst {t : TA} (h : t σ H fun xs H1 => NewZ (xs.length ≤ sizeLine) H1 Q (.lst xs)) : tLst t σ H Q := h
theorem rd_tup {t : TA} (h : t σ H fun xs H1 => NewZ (xs.length ≤ sizeLine) H1 Q (.tup xs)) : tTup t σ H Q := h
theorem rd_yes {R : Bool → Hp → Prop} (h : R true H) : tYes σ H R := h
theorem rd_dnew (q : NewO H Q (.dK [])) : tDNewK σ H Q := q
theorem rd_eas (h : D.nx (σ.set i none) H) : (endsAs D i).nx σ H := h
theorem if_d [Decidable p] (h1 : p → A) (h2 : ¬ p → B) : if decide p = true then A else B := ite2 (fun c => h1 (of_decide_eq_true c)) fun c => h2 fun z => c (decide_eq_true z)
theorem if_nd [Decidable p] (h1 : ¬ p → A) (h2 : p → B) : if (!decide p) = true then A else B := by
  by_cases c : p
  · rw [decide_eq_true c]; exact iteF (h2 c)
  · rw [decide_eq_false c]; exact iteT (h1 c)
theorem if_dT [Decidable p] (c : p) (h : A) : if decide p = true then A else B := by rw [decide_eq_true c]; exact iteT h
theorem if_dF [Decidable p] (c : ¬ p) (h : B) : if decide p = true then A else B := by rw [decide_eq_false c]; exact iteF h
theorem if_ndT [Decidable p] (c : ¬ p) (h : A) : if (!decide p) = true then A else B := by rw [decide_eq_false c]; exact iteT h
theorem if_ndF [Decidable p] (c : p) (h : B) : if (!decide p) = true then A else B := by rw [decide_eq_true c]; exact iteF h
theorem if_b (h1 : b = true → A) (h2 : b = false → B) : if b = true then A else B := ite2 h1 fun c => h2 (Bool.eq_false_iff.mpr c)
theorem if_nb (h1 : b = false → A) (h2 : b = true → B) : if (!b) = true then A else B := by
  cases b
  · exact iteT (h1 rfl)
  · exact iteF (h2 rfl)
theorem if_cT (e : b = true) (h : A) : if b = true then A else B := by rw [e]; exact iteT h
theorem if_cF (e : b = false) (h : B) : if b = true then A else B := by rw [e]; exact iteF h
theorem if_c (e : b = c') (h : if c' = true then A else B) : if b = true then A else B := by rw [e]; exact h
theorem same_at {o : HO} (s : Same H H1) (e : H a = some o) : H1 a = some o := s _ _ e
theorem upd_at {o u : HO} (n : a ≠ c) (e : H a = some o) : upd H c u a = some o := by rw [upd_ne n]; exact e
theorem upd_free {u : HO} (n : a ≠ c) (e : H a = none) : upd H c u a = none := by rw [upd_ne n]; exact e
theorem ne_old {o : HO} (n : H c = none) (e : H a = some o) : a ≠ c := ne_of_none e n
theorem ne_old' {o : HO} (n : H c = none) (e : H a = some o) : c ≠ a := Ne.symm (ne_of_none e n)
theorem new_ {o : HO} (k : ∀ p H2, Same H H2 → H p = none → H2 p = some o → Q (.ref p) H2) : NewO H Q o := fun p hp => k p _ (same_new hp _) hp upd_same
theorem newZ {o : HO} (hz : A) (k : ∀ p H2, Same H H2 → H p = none → H2 p = some o → Q (.ref p) H2) : NewZ A H Q o := ⟨hz, new_ k⟩
theorem same_put' {o : HO} {p : Addr} (n : H p = none) (s : Same H H1) : Same H (upd H1 p o) := same_put n s o
theorem free_at (s : Same H H1) (e : H1 a = none) : H a = none := s.free e
end
def ForL (K : PySem.W.Frag) (x : V) (H1 : Hp) (g : TG) (tb : TS) (D : Ends) (σ : St) : Prop := ∃ a, x = .ref a ∧ (∃ xs, SqL K H1 a xs) ∧ ∃ W : Nat → Nat → St → Hp → Prop, (∃ m, W 0 m σ H1) ∧ ∀ i m σ H, W i m σ H →
  ((Itl K a).stop i H ∧ D.nx σ H) ∨ ((Itl K a).go i H ∧ ∃ N : St → Hp → Prop, (∀ σ' H', N σ' H' → ∃ m', m' < m ∧ W (i + 1) m' σ' H') ∧ ∀ x H', (Itl K a).yld i H x H' → g x σ H' fun σ2 H2 => tb { D with nx := N, ct := N, bk := D.nx } σ2 H2)
def ForR (lo : Int) (n : Nat) (H1 : Hp) (g : TG) (tb : TS) (D : Ends) (σ : St) : Prop := ∃ W : Nat → Nat → St → Hp → Prop, (∃ m, W 0 m σ H1) ∧ ∀ i m σ H, W i m σ H →
  ((Itr lo n).stop i H ∧ D.nx σ H) ∨ ((Itr lo n).go i H ∧ ∃ N : St → Hp → Prop, (∀ σ' H', N σ' H' → ∃ m', m' < m ∧ W (i + 1) m' σ' H') ∧ ∀ x H', (Itr lo n).yld i H x H' → g x σ H' fun σ2 H2 => tb { D with nx := N, ct := N, bk := D.nx } σ2 H2)
def ForD (lo : Int) (n : Nat) (H1 : Hp) (g : TG) (tb : TS) (D : Ends) (σ : St) : Prop := ∃ W : Nat → Nat → St → Hp → Prop, (∃ m, W 0 m σ H1) ∧ ∀ i m σ H, W i m σ H →
  ((Itd lo n).stop i H ∧ D.nx σ H) ∨ ((Itd lo n).go i H ∧ ∃ N : St → Hp → Prop, (∀ σ' H', N σ' H' → ∃ m', m' < m ∧ W (i + 1) m' σ' H') ∧ ∀ x H', (Itd lo n).yld i H x H' → g x σ H' fun σ2 H2 => tb { D with nx := N, ct := N, bk := D.nx } σ2 H2)
section
variable {σ : St} {H H1 : Hp} {K : PySem.W.Frag} {tl : TE} {ta : TA} {g : TG} {tb : TS} {D : Ends} {a : Addr} {xs : List V} {k n : Nat} {m lo : Int}
theorem rd_forL (h : tl σ H fun x H1 => ForL K x H1 g tb D σ) : tFor (iList K tl) g tb D σ H := h
theorem rd_forR1 (h : ta σ H fun vs H1 => ∃ j : Int, vs = [.int j] ∧ -(2 ^ 62) ≤ j ∧ j < 2 ^ 62 ∧ ForR 0 j.toNat H1 g tb D σ) : tFor (iRng1 ta) g tb D σ H := h
theorem rd_forR2 (h : ta σ H fun vs H1 => ∃ i j : Int, vs = [.int i, .int j] ∧ (-(2 ^ 62) ≤ i ∧ i < 2 ^ 62 ∧ -(2 ^ 62) ≤ j ∧ j < 2 ^ 62) ∧ ForR i (j - i).toNat H1 g tb D σ) : tFor (iRng2 ta) g tb D σ H := h
theorem forL (Pv : Nat → St → Hp → Prop) (e : SqL K H1 a xs) (h0 : Pv 0 σ H1) (hl : ∀ i σ H, i ≤ xs.length → Pv i σ H → SqL K H a xs)
    (hs : ∀ i x σ H, xs[i]? = some x → Pv i σ H → tb { D with nx := Pv (i + 1), ct := Pv (i + 1), bk := D.nx } (σ.set k (some x)) H) (hd : ∀ σ H, Pv xs.length σ H → D.nx σ H) : ForL K (.ref a) H1 (gName k) tb D σ :=
  ⟨a, rfl, ⟨xs, e⟩, for_list (xs := xs) Pv h0 hl hs hd⟩
theorem forR (Pv : Nat → St → Hp → Prop) (n : Nat) (hm : m = n) (hz : n ≤ 2 ^ 61) (h0 : Pv 0 σ H1)
    (hs : ∀ i σ H, i < n → Pv i σ H → tb { D with nx := Pv (i + 1), ct := Pv (i + 1), bk := D.nx } (σ.set k (some (.int i))) H) (hd : ∀ σ H, Pv n σ H → D.nx σ H) :
    ∃ j : Int, [V.int m] = [.int j] ∧ -(2 ^ 62) ≤ j ∧ j < 2 ^ 62 ∧ ForR 0 j.toNat H1 (gName k) tb D σ := by
  subst hm
  refine ⟨n, rfl, by omega, by omega, ?_⟩
  refine for_range (n := n) Pv h0 (fun i σ H hi p => ?_) hd
  have z := hs i σ H hi p
  show tb _ (σ.set k (some (.int (0 + i)))) H
  rw [Int.zero_add]
  exact z
end
theorem dec_le_size {n : Nat} (h : n ≤ 100000) : n ≤ sizeLine := Nat.le_of_lt (Nat.lt_of_le_of_lt h (by decide))
end L2
namespace Sp
open PySem L2 SpM
theorem told_new {H : Hp} {Q : VK} {xs : List V} (h : told H Q xs) : NewO H Q (.lst xs) := fun p hp => h p _ (same_new hp _) hp upd_same
end Sp

namespace Sp
open PySem L2 SpM
def spCell (K : PySem.W.Frag) : Sp := fun vs H Q _ => ∃ (a : Addr) (ns : List Int) (k : Nat), vs = [.ref a, .int k] ∧ SqL K H a (ns.map V.int) ∧ Q (.int (ns.getD k 0)) H
def spLWhole (K : PySem.W.Frag) : Sp := fun vs H Q _ => ∃ x, vs = [x] ∧ Thing K H x ∧ Q (.bl (isIntV x && !isBlV x)) H
def spLForm (_ : PySem.W.Frag) : Sp := fun vs H Q _ => ∃ (a : Addr) (ns : List Int), vs = [.ref a] ∧ H a = some (.lst (iv ns)) ∧ ns.length ≤ lim ∧ Form ns ∧ Q (.bl true) H
def spLSum (_ : PySem.W.Frag) : Sp := fun vs H Q _ => ∃ (a b : Addr) (ns : List Int) (m : Nat), vs = [.ref a, .ref b] ∧ H a = some (.lst (iv ns)) ∧ H b = some (.lst (rowV m)) ∧ ns.length ≤ lim ∧ (∀ p ∈ ns, 0 ≤ p ∧ p < m) ∧ ∀ H', Same H H' → Q (.int (val ns)) H'
def spLNumber (_ : PySem.W.Frag) : Sp := fun vs H Q _ => ∃ (c : Int) (r : Addr), vs = [.int c, .ref r] ∧ H r = some (.lst (rowV 1000)) ∧ ∀ n : Int, 0 ≤ n → n < mem 1000 → Q (.int n) H
def spDrawn (_ : PySem.W.Frag) : Sp := fun vs H Q _ => ∃ (c : Int) (b : Addr) (cs : List Int), vs = [.int c, .ref b] ∧ H b = some (.lst (iv cs)) ∧ cs.length ≤ 60 ∧ ∀ fs : List Int, Form fs → (∀ p ∈ fs, p < 1000) → told H Q (iv fs)
def spOdd1 (K : PySem.W.Frag) : Sp := fun vs H Q _ => ∃ x, vs = [x] ∧ Thing K H x ∧ wholeB x = false ∧ ∀ H', Same H H' → Q (.bl true) H'
def spOdd2 (K : PySem.W.Frag) : Sp := fun vs H Q _ => ∃ (x : V) (b : Bool), vs = [x, .bl b] ∧ Thing K H x ∧ wholeB x = false ∧ ∀ H', Same H H' → Q (.bl true) H'

structure Nm (mg : Str → Option Value) (CS CN CF CT CP CL : Addr) : Prop where
  s : mg "SparseError" = some (.ref CS)
  n : mg "NoNumber" = some (.ref CN)
  f : mg "NoForm" = some (.ref CF)
  t : mg "NoText" = some (.ref CT)
  p : mg "NoStep" = some (.ref CP)
  l : mg "TooLittle" = some (.ref CL)
  v : mg "ValueError" = none
structure Thr (K : PySem.W.Frag) (CS CN CF CT CP CL C : Addr) (bn bf bt bp bl : Bool) : Prop where
  look : ExcLook K C
  ms : PySem.W.exmOne K (.ref C) (.ref CS) = some true
  mn : PySem.W.exmOne K (.ref C) (.ref C) = some true
  kv : PySem.W.kitOne K (.ref C) (.type "ValueError") = some true
  kn : PySem.W.kitOne K (.ref C) (.ref CN) = some bn
  kf : PySem.W.kitOne K (.ref C) (.ref CF) = some bf
  kt : PySem.W.kitOne K (.ref C) (.ref CT) = some bt
  kp : PySem.W.kitOne K (.ref C) (.ref CP) = some bp
  kl : PySem.W.kitOne K (.ref C) (.ref CL) = some bl
section
variable {K : PySem.W.Frag}
theorem rd_isiX {H : Hp} {Q : VK} {a C : Addr} {x : V} {cv : Value} {b : Bool} (e : H a = some (excO a (.ref C))) (L : ExcLook K C) (hc : clsV x = some cv) (hk : PySem.W.kitOne K (.ref C) cv = some b) (q : Q (.bl b) H) : rIsiX K [.ref a, x] H Q := ⟨a, C, x, cv, b, rfl, hc, e, L, hk, q⟩
theorem menu {H : Hp} {p1 p2 p3 : Addr} {n c : Int} (hn : n < 0) (h1 : H p1 = some (.lst [.int 2])) (h2 : H p2 = some (.tup [.int 2])) (h3 : H p3 = some (.dK [])) :
    ∃ v, atI [.int n, .bl true, .bl false, .non, .str "3", .ref p1, .ref p2, .ref p3] (c % 8) = some v ∧ Thing K H v ∧ wholeB v = false := by
  have h8 : 0 ≤ c % 8 ∧ c % 8 < 8 := by omega
  obtain ⟨k, hk⟩ : ∃ k : Nat, c % 8 = (k : Int) := ⟨(c % 8).toNat, by omega⟩
  rw [hk]
  have : k = 0 ∨ k = 1 ∨ k = 2 ∨ k = 3 ∨ k = 4 ∨ k = 5 ∨ k = 6 ∨ k = 7 := by omega
  rcases this with e | e | e | e | e | e | e | e <;> subst e
  · exact ⟨_, atI_nat rfl, Thing.int _, by simp [wholeB]; omega⟩
  · exact ⟨_, atI_nat rfl, ⟨_, .bl _⟩, rfl⟩
  · exact ⟨_, atI_nat rfl, ⟨_, .bl _⟩, rfl⟩
  · exact ⟨_, atI_nat rfl, ⟨_, .non⟩, rfl⟩
  · exact ⟨_, atI_nat rfl, ⟨_, .str _⟩, rfl⟩
  · exact ⟨_, atI_nat rfl, ⟨_, .lst h1⟩, rfl⟩
  · exact ⟨_, atI_nat rfl, ⟨_, .tup h2⟩, rfl⟩
  · exact ⟨_, atI_nat rfl, ⟨_, .dK h3⟩, rfl⟩
end
theorem bv (bs : List Bool) {xs : List V} (h : xs = bs.map V.bl) {K : PySem.W.Frag} {H : Hp} {a : Addr} (e : SqL K H a xs) : SqL K H a (bs.map V.bl) := h ▸ e
theorem join1 {α : Sort _} {R : α → Prop} {G : Prop} (P : α → Prop) (k : ∀ p, P p → R p) (h : (∀ p, P p → R p) → G) : G := h k
theorem Thing.ints {K : PySem.W.Frag} {H : Hp} {ns : List Int} : ∀ y ∈ iv ns, Thing K H y := fun y hy => by
  obtain ⟨i, _, rfl⟩ := List.mem_map.mp hy
  exact Thing.int i
def FormIs (K : PySem.W.Frag) (H : Hp) (x : V) (b : Bool) : Prop :=
  (∃ (a : Addr) (xs : List V), x = .ref a ∧ H a = some (.lst xs) ∧ xs.length ≤ lim ∧ (∀ y ∈ xs, Thing K H y) ∧ b = formV xs) ∨ (∃ t, TyOf K H x t ∧ PySem.W.kitOne K t (.type "list") = some false ∧ b = false)
def spIsFormT (K : PySem.W.Frag) : Sp := fun vs H Q _ => ∃ x b, vs = [x] ∧ FormIs K H x b ∧ ∀ H', Same H H' → Q (.bl b) H'
def spBadForm (K : PySem.W.Frag) (C : Addr) : Sp := fun vs H _ E => ∃ x, vs = [x] ∧ FormIs K H x false ∧ ∀ H', Same H H' → E (.ref C) none H'
theorem FormIs.form {K : PySem.W.Frag} {H : Hp} {a : Addr} {ns : List Int} (e : H a = some (.lst (iv ns))) (hz : ns.length ≤ lim) (hf : Form ns) : FormIs K H (.ref a) true :=
  .inl ⟨a, _, rfl, e, by rw [iv_length]; exact hz, Thing.ints, (formV_int hf).symm⟩
theorem FormIs.same {K : PySem.W.Frag} {H H' : Hp} {x : V} {b : Bool} (h : FormIs K H x b) (s : Same H H') : FormIs K H' x b := by
  rcases h with ⟨a, xs, rfl, e, hz, th, hb⟩ | ⟨t, ht, hk, hb⟩
  · exact .inl ⟨a, xs, rfl, s _ _ e, hz, fun y hy => (th y hy).same s, hb⟩
  · refine .inr ⟨t, ?_, hk, hb⟩
    cases ht with
    | non => exact .non
    | bl x => exact .bl x
    | int i => exact .int i
    | str x => exact .str x
    | flt x => exact .flt x
    | lst q => exact .lst (s _ _ q)
    | frz q => exact .frz (s _ _ q)
    | tup q => exact .tup (s _ _ q)
    | dK q => exact .dK (s _ _ q)
    | dT q => exact .dT (s _ _ q)
    | ins q c1 c2 c3 c4 c5 => exact .ins (s _ _ q) c1 c2 c3 c4 c5
end Sp

namespace Sp
open PySem L2 SpM
theorem told_same {H H1 : Hp} {Q : VK} {xs : List V} (s : Same H H1) (q : told H Q xs) : told H1 Q xs := fun r H' s' n' e' => q r H' (s.trans s') (s.free n') e'
theorem told_eq {H : Hp} {Q : VK} {xs ys : List V} (h : ys = xs) (q : told H Q xs) : told H Q ys := h ▸ q
end Sp
namespace L2
open PySem PySem.Spec PyProof.Rows Sp
def CompL (K : PySem.W.Frag) (x : V) (H1 : Hp) (g : TG) (tt : TT) (te : TE) (own : Nat) (fr : List Nat) (σ : St) (Q : VK) : Prop := ∃ a, x = .ref a ∧ (∃ xs, SqL K H1 a xs) ∧ ∀ D, H1 D = none → compRun (Itl K a) g tt te own fr σ H1 D Q
section
variable {K : PySem.W.Frag} {σ rest : St} {H H1 : Hp} {tl te : TE} {tt : TT} {g : TG} {own : Nat} {fr : List Nat} {Q : VK} {a : Addr} {ns : List Int} {ta : TA} {tb : TS} {D : Ends}
theorem rd_compL (h : tl σ H fun x H1 => CompL K x H1 g tt te own fr σ Q) : tComp (iList K tl) g tt te own fr σ H Q := h
theorem compI (f : Int → V) (hl : SqL K H1 a (ns.map V.int)) (hz : ns.length ≤ 100000) (h0 : compSt σ 1 fr = none :: rest)
    (step : ∀ n ∈ ns, ∀ H, Same H1 H → ∀ R : VK, (∀ H', Same H H' → R (f n) H') → te (some (.int n) :: rest) H R) (hq : told H1 Q (ns.map f)) : CompL K (.ref a) H1 (gName 0) tYes te 1 fr σ Q :=
  ⟨a, rfl, ⟨_, hl⟩, fun D hD => comp_map (fun x => match x with | .int i => f i | _ => .non) hD hl (by rw [List.length_map]; exact Nat.lt_of_le_of_lt hz (by decide)) h0 (fun i x H hx sm R hR => by
    obtain ⟨y, hy, rfl⟩ : ∃ y, y ∈ ns ∧ V.int y = x := List.mem_map.mp (List.mem_of_getElem? hx)
    exact step y hy H sm R hR) fun H' sm e => hq D H' sm hD (by rw [e, List.map_map]; rfl)⟩
theorem compIf (c : Int → Bool) (f : Int → V) (hl : SqL K H1 a (ns.map V.int)) (hz : ns.length ≤ 100000) (h0 : compSt σ 1 fr = none :: rest)
    (step : ∀ n ∈ ns, ∀ H, Same H1 H → ∀ (R : VK) (R0 : Hp → Prop), (c n = true → ∀ H', Same H H' → R (f n) H') → (c n = false → ∀ H', Same H H' → R0 H') → tt (some (.int n) :: rest) H fun ok H3 => if ok = true then te (some (.int n) :: rest) H3 R else R0 H3)
    (hq : told H1 Q ((ns.filter c).map f)) : CompL K (.ref a) H1 (gName 0) tt te 1 fr σ Q :=
  ⟨a, rfl, ⟨_, hl⟩, fun D hD => comp_list (fun x => match x with | .int i => if c i = true then some (f i) else none | _ => none) hD hl (by rw [List.length_map]; exact Nat.lt_of_le_of_lt hz (by decide)) h0 (fun i x H hx sm R R0 hR hR0 => by
    obtain ⟨y, hy, rfl⟩ : ∃ y, y ∈ ns ∧ V.int y = x := List.mem_map.mp (List.mem_of_getElem? hx)
    exact step y hy H sm R R0 (fun e H' s' => hR _ H' (by simp [e]) s') fun e H' s' => hR0 H' (by simp [e]) s') fun H' sm e => hq D H' sm hD (by
      rw [e]
      congr 2
      clear hq step hl hz e
      induction ns with
      | nil => rfl
      | cons y r ih =>
        simp only [List.map_cons, List.filterMap_cons, List.filter_cons]
        cases h : c y <;> simp [ih])⟩
def CompR (lo : Int) (n : Nat) (H1 : Hp) (g : TG) (tt : TT) (te : TE) (own : Nat) (fr : List Nat) (σ : St) (Q : VK) : Prop := ∀ D, H1 D = none → compRun (Itr lo n) g tt te own fr σ H1 D Q
theorem rd_compR (h : ta σ H fun vs H1 => ∃ j : Int, vs = [.int j] ∧ -(2 ^ 62) ≤ j ∧ j < 2 ^ 62 ∧ CompR 0 j.toNat H1 g tt te own fr σ Q) : tComp (iRng1 ta) g tt te own fr σ H Q := h
theorem compR {m : Int} (n : Nat) (c : Nat → Bool) (f : Nat → V) (hm : m = n) (hz : n ≤ 100000) (h0 : compSt σ 1 fr = none :: rest)
    (step : ∀ k, k < n → ∀ H, Same H1 H → ∀ (R : VK) (R0 : Hp → Prop), (c k = true → ∀ H', Same H H' → R (f k) H') → (c k = false → ∀ H', Same H H' → R0 H') → tt (some (.int k) :: rest) H fun ok H3 => if ok = true then te (some (.int k) :: rest) H3 R else R0 H3)
    (hq : told H1 Q (((List.range n).filter c).map f)) : ∃ j : Int, [V.int m] = [.int j] ∧ -(2 ^ 62) ≤ j ∧ j < 2 ^ 62 ∧ CompR 0 j.toNat H1 (gName 0) tt te 1 fr σ Q := by
  subst hm
  refine ⟨n, rfl, by omega, by omega, fun D hD => ?_⟩
  rw [Int.toNat_natCast]
  refine ⟨fun i m τ H => m = n - i ∧ i ≤ n ∧ (∃ v, τ = v :: rest) ∧ Same H1 H ∧ H D = some (.lst (((List.range i).filter c).map f)), ⟨n, by simp, Nat.zero_le _, ⟨none, h0⟩, same_put hD (Same.refl _) _, by simpa using upd_same⟩, ?_⟩
  rintro i m τ H ⟨rfl, hi, ⟨v, rfl⟩, sm, hd⟩
  by_cases hlt : i < n
  · refine .inr ⟨hlt, fun x H' y => ?_⟩
    obtain ⟨rfl, rfl⟩ := y
    have e0 : (0 : Int) + (i : Int) = (i : Int) := by omega
    have tk : ((List.range (i + 1)).filter c).map f = ((List.range i).filter c).map f ++ (if c i = true then [f i] else []) := by
      rw [List.range_succ, List.filter_append, List.map_append]
      congr 1
      cases h : c i <;> simp [List.filter_cons, h]
    have ln : (((List.range i).filter c).map f).length ≤ i := by
      rw [List.length_map]
      exact Nat.le_trans (List.length_filter_le _ _) (by simp)
    have sl : (100000 : Nat) < sizeLine := by decide
    show tt (some (.int (0 + i)) :: rest) _ _
    rw [e0]
    refine step i hlt _ sm _ _ (fun hc H4 s4 => ?_) fun hc H3 s3 => ?_
    · refine ⟨_, s4 _ _ hd, by omega, n - (i + 1), by omega, rfl, hlt, ⟨some (.int i), rfl⟩, same_put hD (sm.trans s4) _, ?_⟩
      rw [upd_same, tk, hc]
      rfl
    · refine ⟨n - (i + 1), by omega, rfl, hlt, ⟨some (.int i), rfl⟩, sm.trans s3, ?_⟩
      rw [tk, hc, if_neg Bool.false_ne_true, List.append_nil]
      exact s3 _ _ hd
  · have e : i = n := by omega
    subst e
    exact .inl ⟨Nat.le_refl _, hq D H sm hD hd⟩
theorem rd_rev (h : tl σ H fun x H1 => ∃ l xs, x = .ref l ∧ SqL K H1 l xs ∧ NewO H1 Q (.lst xs.reverse)) : tRev K tl σ H Q := h
theorem revL {xs : List V} (e : SqL K H1 a xs) (q : NewO H1 Q (.lst xs.reverse)) : ∃ l xs, V.ref a = .ref l ∧ SqL K H1 l xs ∧ NewO H1 Q (.lst xs.reverse) := ⟨a, xs, rfl, e, q⟩
theorem rd_forD (h : ta σ H fun vs H1 => ∃ i j : Int, vs = [.int i, .int j, .int (-1)] ∧ (-(2 ^ 62) ≤ i ∧ i < 2 ^ 62 ∧ -(2 ^ 62) ≤ j ∧ j < 2 ^ 62) ∧ ForD i (i - j).toNat H1 g tb D σ) : tFor (iRngD ta) g tb D σ H := h
theorem forD {m : Int} {k : Nat} (Pv : Nat → St → Hp → Prop) (n : Nat) (hm : m = (n : Int) - 1) (hz : n ≤ 2 ^ 60) (h0 : Pv 0 σ H1)
    (hs : ∀ i j σ H, i + j + 1 = n → Pv i σ H → tb { D with nx := Pv (i + 1), ct := Pv (i + 1), bk := D.nx } (σ.set k (some (.int (j : Nat)))) H) (hd : ∀ σ H, Pv n σ H → D.nx σ H) :
    ∃ i j : Int, [V.int m, .int (-1), .int (-1)] = [.int i, .int j, .int (-1)] ∧ (-(2 ^ 62) ≤ i ∧ i < 2 ^ 62 ∧ -(2 ^ 62) ≤ j ∧ j < 2 ^ 62) ∧ ForD i (i - j).toNat H1 (gName k) tb D σ := by
  subst hm
  refine ⟨(n : Int) - 1, -1, rfl, by omega, ?_⟩
  rw [show ((n : Int) - 1 - -1).toNat = n by omega]
  refine for_down (n := n) Pv h0 (fun i σ H hi p => ?_) hd
  have z := hs i (n - 1 - i) σ H (by omega) p
  show tb _ (σ.set k (some (.int ((n : Int) - 1 - i)))) H
  rw [show (n : Int) - 1 - i = ((n - 1 - i : Nat) : Int) by omega]
  exact z
end
section
variable {X : Cx}
def CMulB (i j : Int) : Prop := Builtin.Int.intBits i ≤ 60000000 ∧ Builtin.Int.intBits j ≤ 60000000
theorem op_mulB : OpR X (binaryOp .Mult) (rI CMulB fun i j => .int (i * j)) := opI fun _ _ _ _ _ _ _ hc q => mul_int q (PyProof.Rows.mulOk_of_bits hc.1 hc.2 (by decide))
end
end L2

namespace L2
open PySem PySem.Spec PyProof.Rows
mutual
inductive Dat (K : PySem.W.Frag) (H : Hp) : V → PyData → Prop
  | non : Dat K H .non .none
  | bl (b : Bool) : Dat K H (.bl b) (.bool b)
  | int (i : Int) : Dat K H (.int i) (.int i)
  | str (x : Str) : Dat K H (.str x) (.str x)
  | lst {a : Addr} {xs : List V} {ds : List PyData} : SqL K H a xs → Dats K H xs ds → Dat K H (.ref a) (.list ds)
  | tup {a : Addr} {xs : List V} {ds : List PyData} : SqT K H a xs → Dats K H xs ds → Dat K H (.ref a) (.tuple ds)
inductive Dats (K : PySem.W.Frag) (H : Hp) : List V → List PyData → Prop
  | nil : Dats K H [] []
  | cons {x : V} {xs : List V} {d : PyData} {ds : List PyData} : Dat K H x d → Dats K H xs ds → Dats K H (x :: xs) (d :: ds)
end
section
variable {X : Cx} {pins : List (Addr × Obj)} {σ : St} {H : Hp} {s : Shared}
mutual
theorem Dat.reads (I : Inv X pins σ H s) : ∀ {x : V} {d : PyData} {u : Value}, Dat X.K H x d → RelV x u → ∃ as, Reads s.heap u d as
  | _, _, _, .non, r => by cases r; exact ⟨_, .none⟩
  | _, _, _, .bl b, r => by cases r; exact ⟨_, .bool b⟩
  | _, _, _, .int i, r => by obtain ⟨t, rfl⟩ := r; exact ⟨_, .int i t⟩
  | _, _, _, .str x, r => by obtain ⟨t, rfl⟩ := r; exact ⟨_, .str x t⟩
  | _, _, _, .lst hS hd, r => by
    cases r
    obtain ⟨its, vr, p, _⟩ := I.list hS
    obtain ⟨as, ra⟩ := Dats.reads I hd vr
    obtain ⟨o, ho, hc, n, hdd⟩ := p.isList
    exact ⟨_, .list ho hc hdd (by simpa using ra)⟩
  | _, _, _, .tup hS hd, r => by
    cases r
    obtain ⟨its, vr, p, _⟩ := I.tuple hS
    obtain ⟨as, ra⟩ := Dats.reads I hd vr
    obtain ⟨o, ho, hc, n, hdd⟩ := p
    exact ⟨_, .tuple ho hc hdd (by simpa using ra)⟩
theorem Dats.reads (I : Inv X pins σ H s) : ∀ {xs : List V} {ds : List PyData} {us : List Value}, Dats X.K H xs ds → Vals xs us → ∃ as, ReadsAll s.heap us ds as
  | _, _, _, .nil, r => by cases r; exact ⟨_, .nil⟩
  | _, _, _, .cons hx hr, r => by
    cases r with
    | cons r1 r2 =>
      obtain ⟨as, ra⟩ := Dat.reads I hx r1
      obtain ⟨bs, rb⟩ := Dats.reads I hr r2
      exact ⟨_, .cons ra rb⟩
end
end
section
variable {X : Cx}
def rEqD (K : PySem.W.Frag) : R2 := fun x y H Q => ∃ d e, Dat K H x d ∧ Dat K H y e ∧ SeqAt.shaped d = true ∧ SeqAt.shaped e = true ∧ Q (.bl (PyData.eqv d e)) H
def rNeD (K : PySem.W.Frag) : R2 := fun x y H Q => ∃ d e, Dat K H x d ∧ Dat K H y e ∧ SeqAt.shaped d = true ∧ SeqAt.shaped e = true ∧ Q (.bl (!PyData.eqv d e)) H
theorem op_eqD (hu : X.A.units + 64 < cLine) : OpR X (compareOp .Eq) (rEqD X.K) := by
  intro pins s σ H x y v u Q I r1 r2 h
  obtain ⟨d, e, h1, h2, s1, s2, q⟩ := h
  obtain ⟨as, ra⟩ := h1.reads I r1
  obtain ⟨bs, rb⟩ := h2.reads I r2
  exact eq_dataH ra rb s1 s2 hu ⟨.bl (PyData.eqv d e), H, I, rfl, q⟩
theorem op_neD (hu : X.A.units + 64 < cLine) : OpR X (compareOp .NotEq) (rNeD X.K) := by
  intro pins s σ H x y v u Q I r1 r2 h
  obtain ⟨d, e, h1, h2, s1, s2, q⟩ := h
  obtain ⟨as, ra⟩ := h1.reads I r1
  obtain ⟨bs, rb⟩ := h2.reads I r2
  exact ne_dataH ra rb s1 s2 hu ⟨.bl (!PyData.eqv d e), H, I, rfl, q⟩
theorem rd_eqD {K : PySem.W.Frag} {H : Hp} {Q : VK} {x y : V} {d : PyData} (h1 : Dat K H x d) (h2 : Dat K H y d) (hs : SeqAt.shaped d = true) (q : Q (.bl true) H) : rEqD K x y H Q :=
  ⟨d, d, h1, h2, hs, hs, by rw [SeqAt.eqv_refl d (SeqAt.canLay_of_shaped hs)]; exact q⟩
theorem rd_neD {K : PySem.W.Frag} {H : Hp} {Q : VK} {x y : V} {d : PyData} (h1 : Dat K H x d) (h2 : Dat K H y d) (hs : SeqAt.shaped d = true) (q : Q (.bl false) H) : rNeD K x y H Q :=
  ⟨d, d, h1, h2, hs, hs, by rw [SeqAt.eqv_refl d (SeqAt.canLay_of_shaped hs)]; exact q⟩
end
def dI (ns : List Int) : PyData := .list (ns.map .int)
theorem canI : ∀ ns : List Int, PyData.canLayAll0 (ns.map PyData.int) = true
  | [] => rfl
  | _ :: r => by simp [PyData.canLayAll0, PyData.canLay0, canI r]
theorem depI : ∀ ns : List Int, PyData.depthAll (ns.map PyData.int) = 0
  | [] => rfl
  | _ :: r => by simp [PyData.depthAll, PyData.depth, depI r]
theorem Dats.ints {K : PySem.W.Frag} {H : Hp} : ∀ ns : List Int, Dats K H (ns.map V.int) (ns.map PyData.int)
  | [] => .nil
  | i :: r => .cons (.int i) (Dats.ints r)
theorem Dat.ints {K : PySem.W.Frag} {H : Hp} {a : Addr} {ns : List Int} (h : SqL K H a (ns.map V.int)) : Dat K H (.ref a) (dI ns) := .lst h (Dats.ints ns)
theorem shapeI (ns : List Int) : SeqAt.shaped (dI ns) = true := by simp [SeqAt.shaped, dI, PyData.canLay0, PyData.depth, canI, depI]
theorem shapeI2 (ns ms : List Int) : SeqAt.shaped (.list [dI ns, dI ms]) = true := by simp [SeqAt.shaped, dI, PyData.canLay0, PyData.canLayAll0, PyData.depth, PyData.depthAll, canI, depI]
end L2

namespace HT
open PySem PyProof.Rows PySem.SeqAt PySem.MeetsSeq PySem.MeetsSeq2 PySem.MeetsSeq3
open PySem.AutoSeq1 (wpAny_loadPart')
theorem ints_at {us : List Value} {ns : List Int} (h : IntsAre us ns) {i : Nat} (hi : i < us.length) : ∃ (x : Int) (t : Tok), us[i]? = some (.int x t) ∧ ns.drop i = x :: ns.drop (i + 1) := by
  induction h generalizing i with
  | nil => simp at hi
  | cons a t r ih =>
    cases i with
    | zero => exact ⟨a, t, rfl, rfl⟩
    | succ i =>
      obtain ⟨x, t', e1, e2⟩ := ih (i := i) (by simpa using hi)
      exact ⟨x, t', by simpa using e1, by simpa using e2⟩
theorem rcGt_int (A : Around) (s : Shared) (a : Int) (t : Tok) (c : Int) (u : Tok) (prog : Program) (w : World) (E : Value → Shared → Prop) (Q : Value → Shared → Prop) (h : Q (.bool (decide (c < a))) s) :
    wpAny (model prog w) A (richCompare .Gt (.int a t) (.int c u)) Q E s :=
  (PyProof.Rows.gt_int h : wpAny (model prog w) A (compareOp .Gt (.int a t) (.int c u)) Q E s)
section
variable (la lb : Addr) (xs ys : Array Value) (n1 n2 : Nat) (d1 d2 : Option Addr) (k1 k2 : Array (Option Value)) {ns ms : List Int} (hi : IntsAre xs.toList ns) (hj : IntsAre ys.toList ms)
include hi hj in
theorem lt_walk (k : Nat) : ∀ i : Nat, xs.size - i = k → i ≤ xs.size → i ≤ ys.size → Meets (Builtin.«list.__eq__.loop» ⟨[.ref la, .ref lb, rawInt i, rawInt 0], []⟩)
      (fun _ R s => s.heap.get? la = some { cls := .type "list", dict := d1, data := .seq xs n1, slots := k1 } ∧ s.heap.get? lb = some { cls := .type "list", dict := d2, data := .seq ys n2, slots := k2 } ∧
        R (.ok (.ret (.bool (lexLt (ns.drop i) (ms.drop i))))) s) := by
  have z1 : xs.size = ns.length := by rw [← hi.length]; simp
  have z2 : ys.size = ms.length := by rw [← hj.length]; simp
  induction k with
  | zero =>
    intro i hk h1 h2 prog w A R s h
    obtain ⟨hp, gg, dd, tk, os⟩ := s
    obtain ⟨ha, hb, h⟩ := h
    have e : i = xs.size := by omega
    wp_walk using wpAny_loadPart' ha, wpAny_loadPart' hb
    have x1 : xs[((i : Nat) : Int).toNat]? = none := by simp; omega
    rw [x1]
    wp_walk using wpAny_loadPart' ha, wpAny_loadPart' hb
    show R (.ok (.ret (.bool (decide (xs.size < ys.size))))) _
    have q : lexLt (ns.drop i) (ms.drop i) = decide (xs.size < ys.size) := by
      rw [List.drop_eq_nil_of_le (by omega)]
      cases c : ms.drop i with
      | nil =>
        have := congrArg List.length c
        rw [List.length_drop, List.length_nil] at this
        rw [lexLt_nil_nil]
        exact (decide_eq_false (by omega)).symm
      | cons y r =>
        have := congrArg List.length c
        rw [List.length_drop, List.length_cons] at this
        rw [lexLt_nil_cons]
        exact (decide_eq_true (by omega)).symm
    rw [← q]
    exact h
  | succ k ih =>
    intro i hk h1 h2 prog w A R s h
    obtain ⟨hp, gg, dd, tk, os⟩ := s
    obtain ⟨ha, hb, h⟩ := h
    obtain ⟨x, t, ex, dx⟩ := ints_at hi (i := i) (by simp; omega)
    have x1 : xs[((i : Nat) : Int).toNat]? = some (.int x t) := by simpa using ex
    wp_walk using wpAny_loadPart' ha, wpAny_loadPart' hb
    rw [x1]
    by_cases c : i < ys.size
    · obtain ⟨y, u, ey, dy⟩ := ints_at hj (i := i) (by simpa using c)
      have y1 : ys[((i : Nat) : Int).toNat]? = some (.int y u) := by simpa using ey
      rw [y1]
      rw [dx, dy, lexLt_cons] at h
      obtain ⟨e, he, hiff⟩ := eqAt_int A.in1 ⟨hp, gg, dd, tk, os⟩ x t y u
      refine wpAny_bind (he prog w _ _ ?_)
      cases e with
      | true =>
        rw [if_pos (hiff.mp rfl)] at h
        wp_walk
        rw [show ((i : Int) + 1) = ((i + 1 : Nat) : Int) by omega]
        refine ⟨plainId_quiet plain_eq_loop _, codeAny_builtin entry_eq_loop ?_⟩
        rw [Around.under_plainId plain_eq_loop _]
        exact ih (i + 1) (by omega) (by omega) (by omega) prog w A R _ ⟨ha, hb, h⟩
      | false =>
        rw [if_neg (fun q => absurd (hiff.mpr q) Bool.false_ne_true)] at h
        wp_walk using wpAny_loadPart' ha, wpAny_loadPart' hb
        rw [x1, y1]
        have rc := rcLt_int A.in1 ⟨hp, gg, dd, tk, os⟩ x t y u prog w
        wp_walk using rc
        exact h
    · have y1 : ys[((i : Nat) : Int).toNat]? = none := by simp; omega
      rw [y1]
      wp_walk using wpAny_loadPart' ha, wpAny_loadPart' hb
      show R (.ok (.ret (.bool (decide (xs.size < ys.size))))) _
      have q : lexLt (ns.drop i) (ms.drop i) = decide (xs.size < ys.size) := by
        rw [dx, List.drop_eq_nil_of_le (show ms.length ≤ i by omega), lexLt_cons_nil]
        exact (decide_eq_false (by omega)).symm
      rw [← q]
      exact h
include hi hj in
theorem gt_walk (k : Nat) : ∀ i : Nat, xs.size - i = k → i ≤ xs.size → i ≤ ys.size → Meets (Builtin.«list.__eq__.loop» ⟨[.ref la, .ref lb, rawInt i, rawInt 4], []⟩)
      (fun _ R s => s.heap.get? la = some { cls := .type "list", dict := d1, data := .seq xs n1, slots := k1 } ∧ s.heap.get? lb = some { cls := .type "list", dict := d2, data := .seq ys n2, slots := k2 } ∧
        R (.ok (.ret (.bool (lexLt (ms.drop i) (ns.drop i))))) s) := by
  have z1 : xs.size = ns.length := by rw [← hi.length]; simp
  have z2 : ys.size = ms.length := by rw [← hj.length]; simp
  induction k with
  | zero =>
    intro i hk h1 h2 prog w A R s h
    obtain ⟨hp, gg, dd, tk, os⟩ := s
    obtain ⟨ha, hb, h⟩ := h
    have e : i = xs.size := by omega
    wp_walk using wpAny_loadPart' ha, wpAny_loadPart' hb
    have x1 : xs[((i : Nat) : Int).toNat]? = none := by simp; omega
    rw [x1]
    wp_walk using wpAny_loadPart' ha, wpAny_loadPart' hb
    show R (.ok (.ret (.bool (decide (xs.size > ys.size))))) _
    have q : lexLt (ms.drop i) (ns.drop i) = decide (xs.size > ys.size) := by
      rw [List.drop_eq_nil_of_le (show ns.length ≤ i by omega), decide_eq_false (by omega)]
      cases c : ms.drop i with
      | nil => exact lexLt_nil_nil
      | cons y r => exact lexLt_cons_nil _ _
    rw [← q]
    exact h
  | succ k ih =>
    intro i hk h1 h2 prog w A R s h
    obtain ⟨hp, gg, dd, tk, os⟩ := s
    obtain ⟨ha, hb, h⟩ := h
    obtain ⟨x, t, ex, dx⟩ := ints_at hi (i := i) (by simp; omega)
    have x1 : xs[((i : Nat) : Int).toNat]? = some (.int x t) := by simpa using ex
    wp_walk using wpAny_loadPart' ha, wpAny_loadPart' hb
    rw [x1]
    by_cases c : i < ys.size
    · obtain ⟨y, u, ey, dy⟩ := ints_at hj (i := i) (by simpa using c)
      have y1 : ys[((i : Nat) : Int).toNat]? = some (.int y u) := by simpa using ey
      rw [y1]
      rw [dx, dy, lexLt_cons] at h
      obtain ⟨e, he, hiff⟩ := eqAt_int A.in1 ⟨hp, gg, dd, tk, os⟩ x t y u
      refine wpAny_bind (he prog w _ _ ?_)
      cases e with
      | true =>
        rw [if_pos (hiff.mp rfl).symm] at h
        wp_walk
        rw [show ((i : Int) + 1) = ((i + 1 : Nat) : Int) by omega]
        refine ⟨plainId_quiet plain_eq_loop _, codeAny_builtin entry_eq_loop ?_⟩
        rw [Around.under_plainId plain_eq_loop _]
        exact ih (i + 1) (by omega) (by omega) (by omega) prog w A R _ ⟨ha, hb, h⟩
      | false =>
        rw [if_neg (fun q => absurd (hiff.mpr q.symm) Bool.false_ne_true)] at h
        wp_walk using wpAny_loadPart' ha, wpAny_loadPart' hb
        rw [x1, y1]
        have rc := rcGt_int A.in1 ⟨hp, gg, dd, tk, os⟩ x t y u prog w
        wp_walk using rc
        exact h
    · have y1 : ys[((i : Nat) : Int).toNat]? = none := by simp; omega
      rw [y1]
      wp_walk using wpAny_loadPart' ha, wpAny_loadPart' hb
      show R (.ok (.ret (.bool (decide (xs.size > ys.size))))) _
      have q : lexLt (ms.drop i) (ns.drop i) = decide (xs.size > ys.size) := by
        rw [dx, List.drop_eq_nil_of_le (show ms.length ≤ i by omega), lexLt_nil_cons]
        exact (decide_eq_true (by omega)).symm
      rw [← q]
      exact h
include hi hj in
theorem list_lt : Meets (Builtin.«list.__lt__» ⟨[.ref la, .ref lb], []⟩)
      (fun _ R s => s.heap.get? la = some { cls := .type "list", dict := d1, data := .seq xs n1, slots := k1 } ∧ s.heap.get? lb = some { cls := .type "list", dict := d2, data := .seq ys n2, slots := k2 } ∧
        R (.ok (.ret (.bool (lexLt ns ms)))) s) := by
  intro prog w A R s h
  obtain ⟨hp, gg, dd, tk, os⟩ := s
  obtain ⟨ha, hb, h⟩ := h
  have f2 := AutoSeq1.sub_list_list
  wp_walk using wpAny_loadPart' ha, wpAny_loadPart' hb
  refine ⟨plainId_quiet plain_eq_loop _, codeAny_builtin entry_eq_loop ?_⟩
  rw [Around.under_plainId plain_eq_loop _]
  exact lt_walk la lb xs ys n1 n2 d1 d2 k1 k2 hi hj _ 0 rfl (Nat.zero_le _) (Nat.zero_le _) prog w A R _ ⟨ha, hb, h⟩
include hi hj in
theorem list_gt : Meets (Builtin.«list.__gt__» ⟨[.ref la, .ref lb], []⟩)
      (fun _ R s => s.heap.get? la = some { cls := .type "list", dict := d1, data := .seq xs n1, slots := k1 } ∧ s.heap.get? lb = some { cls := .type "list", dict := d2, data := .seq ys n2, slots := k2 } ∧
        R (.ok (.ret (.bool (lexLt ms ns)))) s) := by
  intro prog w A R s h
  obtain ⟨hp, gg, dd, tk, os⟩ := s
  obtain ⟨ha, hb, h⟩ := h
  have f2 := AutoSeq1.sub_list_list
  wp_walk using wpAny_loadPart' ha, wpAny_loadPart' hb
  refine ⟨plainId_quiet plain_eq_loop _, codeAny_builtin entry_eq_loop ?_⟩
  rw [Around.under_plainId plain_eq_loop _]
  exact gt_walk la lb xs ys n1 n2 d1 d2 k1 k2 hi hj _ 0 rfl (Nat.zero_le _) (Nat.zero_le _) prog w A R _ ⟨ha, hb, h⟩
end
end HT
namespace L2
open PySem PySem.Spec PyProof.Rows
section
variable {X : Cx}
def rLtL (K : PySem.W.Frag) : R2 := fun x y H Q => ∃ (a b : Addr) (ns ms : List Int), x = .ref a ∧ y = .ref b ∧ SqL K H a (ns.map V.int) ∧ SqL K H b (ms.map V.int) ∧ Q (.bl (HT.lexLt ns ms)) H
def rGtL (K : PySem.W.Frag) : R2 := fun x y H Q => ∃ (a b : Addr) (ns ms : List Int), x = .ref a ∧ y = .ref b ∧ SqL K H a (ns.map V.int) ∧ SqL K H b (ms.map V.int) ∧ Q (.bl (HT.lexLt ms ns)) H
theorem op_ltL (hu : X.A.units + 64 < cLine) : OpR X (compareOp .Lt) (rLtL X.K) := by
  intro pins s σ H x y v u Q I r1 r2 h
  obtain ⟨a, b, ns, ms, rfl, rfl, h1, h2, q⟩ := h
  cases r1
  cases r2
  obtain ⟨is1, v1, p1, _⟩ := I.list h1
  obtain ⟨is2, v2, p2, _⟩ := I.list h2
  obtain ⟨⟨c1, d1, t1, l1⟩, o1, e1, n1, f1⟩ := p1.isList
  obtain ⟨⟨c2, d2, t2, l2⟩, o2, e2, n2, f2⟩ := p2.isList
  simp only at e1 f1 e2 f2
  subst e1 f1 e2 f2
  have i1 : IntsAre is1.toArray.toList ns := intsAre_of v1
  have i2 : IntsAre is2.toArray.toList ms := intsAre_of v2
  exact richCompare_meets_room (op := .Lt) ⟨_, o1, rfl⟩ ⟨_, o2, rfl⟩ PySem.F.slot_list_lt PySem.F.entry_list_lt (PySem.F.args_list_lt_2 _ _) (HT.list_lt a b is1.toArray is2.toArray n1 n2 d1 d2 l1 l2 i1 i2)
    ⟨o1, o2, show Value.bool (HT.lexLt ns ms) ≠ Value.notImplemented ∧ _ from ⟨(fun z => nomatch z), ⟨.bl (HT.lexLt ns ms), H, I, rfl, q⟩⟩⟩ (by omega)
theorem op_gtL (hu : X.A.units + 64 < cLine) : OpR X (compareOp .Gt) (rGtL X.K) := by
  intro pins s σ H x y v u Q I r1 r2 h
  obtain ⟨a, b, ns, ms, rfl, rfl, h1, h2, q⟩ := h
  cases r1
  cases r2
  obtain ⟨is1, v1, p1, _⟩ := I.list h1
  obtain ⟨is2, v2, p2, _⟩ := I.list h2
  obtain ⟨⟨c1, d1, t1, l1⟩, o1, e1, n1, f1⟩ := p1.isList
  obtain ⟨⟨c2, d2, t2, l2⟩, o2, e2, n2, f2⟩ := p2.isList
  simp only at e1 f1 e2 f2
  subst e1 f1 e2 f2
  have i1 : IntsAre is1.toArray.toList ns := intsAre_of v1
  have i2 : IntsAre is2.toArray.toList ms := intsAre_of v2
  exact richCompare_meets_room (op := .Gt) ⟨_, o1, rfl⟩ ⟨_, o2, rfl⟩ PySem.F.slot_list_gt PySem.F.entry_list_gt (PySem.F.args_list_gt_2 _ _) (HT.list_gt a b is1.toArray is2.toArray n1 n2 d1 d2 l1 l2 i1 i2)
    ⟨o1, o2, show Value.bool (HT.lexLt ms ns) ≠ Value.notImplemented ∧ _ from ⟨(fun z => nomatch z), ⟨.bl (HT.lexLt ms ns), H, I, rfl, q⟩⟩⟩ (by omega)
theorem rd_ltL {K : PySem.W.Frag} {H : Hp} {Q : VK} {a c : Addr} {ns ms : List Int} (e : SqL K H a (ns.map V.int)) (e' : SqL K H c (ms.map V.int)) (q : Q (.bl (HT.lexLt ns ms)) H) : rLtL K (.ref a) (.ref c) H Q := ⟨a, c, ns, ms, rfl, rfl, e, e', q⟩
theorem rd_gtL {K : PySem.W.Frag} {H : Hp} {Q : VK} {a c : Addr} {ns ms : List Int} (e : SqL K H a (ns.map V.int)) (e' : SqL K H c (ms.map V.int)) (q : Q (.bl (HT.lexLt ms ns)) H) : rGtL K (.ref a) (.ref c) H Q := ⟨a, c, ns, ms, rfl, rfl, e, e', q⟩
end
end L2

namespace L2
open PySem PySem.Spec PyProof.Rows
section
variable {prog : Program} {w : World} {A : Around} {R : Result → Shared → Prop} {it : Addr} {fp wr : List Addr} {n : Nat} {P : Nat → Value → Prop} {St : Nat → Heap → Prop} {dv : Value}
abbrev bestObj (vs : Array Value) (c : Nat) : Obj := { cls := .type "list", dict := none, data := .seq vs c, slots := #[] }
theorem dfl_name : (toString "max" ++ toString ".loop" : String) = "max.loop" := by decide
theorem maxD_rest (W : Walks prog w A.in1 it fp wr n P St) (bt : Nat → Nat → Bool) (cmp : CmpOf prog w A.in1 .Gt P bt) (B : Addr) (nB : B ∉ fp) : ∀ (k j : Nat) (s : Shared) (top : Value) (c : Nat), n - (j + 1) = k → j + 1 ≤ n → St (j + 1) s.heap →
    P (argBest bt j) top → s.heap.get? B = some (bestObj #[top, top] c) →
    (∀ v h' tk, P (argBest bt (n - 1)) v → (∀ b o, b ∉ wr → b ≠ B → s.heap.get? b = some o → h'.get? b = some o) → R (.ok (.ret v)) { s with heap := h', toks := tk }) →
    codeAny (model prog w) A (.builtin "max.loop" ⟨[.ref it, .none, .ref B], [("default", dv)]⟩) R s := by
  have wB : B ∉ wr := fun z => nB (W.sub _ z)
  intro k
  induction k with
  | zero =>
    intro j s top c hk hj st hp gB fin
    have ej : j + 1 = n := by omega
    refine codeAny_builtin F.entry_max_loop ?_
    rw [Around.under_plainId F.plain_max_loop _]
    show wpAny _ A.in1 (seqItems? (.ref B) >>= _) _ _ s
    refine wpAny_bind (wpAny_seqItems gB rfl ?_)
    show wpAny _ A.in1 (tryCatch (pyNext (.ref it)) _ >>= _) _ _ s
    refine wpAny_bind (wpAny_tryCatch (W.done s _ _ (ej ▸ st) fun h' tk kk => ?_))
    have gB' := kk B _ wB gB
    show wpAny _ A.in1 (updateSeq B (fun _ => #[]) >>= _) _ _ _
    refine wpAny_bind (wpAny_updateSeq gB' rfl (wpAny_bind (wpAny_letGo (wpAny_pure ?_))))
    exact fin top _ tk (by rw [← ej]; exact hp) fun b o b1 b2 e => (Heap.get?_update_other _ _ (Ne.symm b2)).trans (kk b o b1 e)
  | succ k ih =>
    intro j s top c hk hj st hp gB fin
    have lt : j + 1 < n := by omega
    refine codeAny_builtin F.entry_max_loop ?_
    rw [Around.under_plainId F.plain_max_loop _]
    show wpAny _ A.in1 (seqItems? (.ref B) >>= _) _ _ s
    refine wpAny_bind (wpAny_seqItems gB rfl ?_)
    show wpAny _ A.in1 (tryCatch (pyNext (.ref it)) _ >>= _) _ _ s
    refine wpAny_bind (wpAny_tryCatch (W.item (j + 1) s _ _ lt st fun v h' tk hv st' kk => ?_))
    have gB' := kk B _ wB gB
    show wpAny _ A.in1 (tryCatch (holding [v, v] (richCompare .Gt v top >>= _)) _ >>= _) _ _ _
    refine wpAny_bind (wpAny_tryCatch (wpAny_holding (wpAny_bind (cmp (j + 1) (argBest bt j) v top _ _ _ hv hp ?_))))
    refine wpAny_bind (wpAny_holding (wpAny_truthy_bool (wpAny_bind (wpAny_letGo (wpAny_pure ?_)))))
    cases q : bt (j + 1) (argBest bt j) with
    | true =>
      simp only [if_true]
      refine wpAny_bind (wpAny_updateSeq gB' rfl (wpAny_bind (wpAny_letGo ?_)))
      rw [dfl_name]
      refine wpAny_pure ⟨plainId_quiet F.plain_max_loop _, ih (j + 1) _ v _ (by omega) lt (W.frame _ _ _ st' fun b fb o e => ?_) (by simp only [argBest, q, if_true]; exact hv) (Heap.get?_update_self _ gB' rfl) fun v' h2 tk2 hv2 k2 => ?_⟩
      · exact (Heap.get?_update_other _ _ (fun z : B = b => nB (by rw [z]; exact fb))).trans e
      · exact fin v' h2 tk2 hv2 fun b o b1 b2 e => k2 b o b1 b2 ((Heap.get?_update_other _ _ (Ne.symm b2)).trans (kk b o b1 e))
    | false =>
      simp only [Bool.false_eq_true, if_false]
      refine wpAny_bind (wpAny_letGo ?_)
      rw [dfl_name]
      refine wpAny_pure ⟨plainId_quiet F.plain_max_loop _, ih (j + 1) _ top c (by omega) lt st' (by simp only [argBest, q, Bool.false_eq_true, if_false]; exact hp) gB' fun v' h2 tk2 hv2 k2 => ?_⟩
      exact fin v' h2 tk2 hv2 fun b o b1 b2 e => k2 b o b1 b2 (kk b o b1 e)
theorem maxD_first (W : Walks prog w A.in1 it fp wr n P St) (bt : Nat → Nat → Bool) (cmp : CmpOf prog w A.in1 .Gt P bt) (B : Addr) (nB : B ∉ fp) {s : Shared} {c : Nat} (st : St 0 s.heap) (gB : s.heap.get? B = some (bestObj #[] c))
    (fin : ∀ v h' tk, ((n = 0 ∧ v = dv) ∨ (0 < n ∧ P (argBest bt (n - 1)) v)) → (∀ b o, b ∉ wr → b ≠ B → s.heap.get? b = some o → h'.get? b = some o) → R (.ok (.ret v)) { s with heap := h', toks := tk }) :
    codeAny (model prog w) A (.builtin "max.loop" ⟨[.ref it, .none, .ref B], [("default", dv)]⟩) R s := by
  have wB : B ∉ wr := fun z => nB (W.sub _ z)
  refine codeAny_builtin F.entry_max_loop ?_
  rw [Around.under_plainId F.plain_max_loop _]
  show wpAny _ A.in1 (seqItems? (.ref B) >>= _) _ _ s
  refine wpAny_bind (wpAny_seqItems gB rfl ?_)
  show wpAny _ A.in1 (tryCatch (pyNext (.ref it)) _ >>= _) _ _ s
  by_cases hn : n = 0
  · subst hn
    refine wpAny_bind (wpAny_tryCatch (W.done s _ _ st fun h' tk kk => ?_))
    refine wpAny_bind (wpAny_rule (wpAny_pure ?_))
    exact fin dv h' tk (.inl ⟨rfl, rfl⟩) fun b o b1 _ e => kk b o b1 e
  · have hn' : 0 < n := by omega
    refine wpAny_bind (wpAny_tryCatch (W.item 0 s _ _ hn' st fun v h' tk hv st' kk => ?_))
    have gB' := kk B _ wB gB
    show wpAny _ A.in1 (updateSeq B (fun _ => #[v, v]) >>= _) _ _ _
    refine wpAny_bind (wpAny_updateSeq gB' rfl ?_)
    rw [dfl_name]
    refine wpAny_pure ⟨plainId_quiet F.plain_max_loop _, maxD_rest W bt cmp B nB _ 0 _ v _ rfl hn' (W.frame _ _ _ st' fun b fb o e => ?_) hv (Heap.get?_update_self _ gB' rfl) fun v' h2 tk2 hv2 k2 => ?_⟩
    · exact (Heap.get?_update_other _ _ (fun z : B = b => nB (by rw [z]; exact fb))).trans e
    · exact fin v' h2 tk2 (.inr ⟨hn', hv2⟩) fun b o b1 b2 e => k2 b o b1 b2 ((Heap.get?_update_other _ _ (Ne.symm b2)).trans (kk b o b1 e))
end
section
variable {prog : Program} {w : World} {A : Around} {E : Value → Shared → Prop} {s : Shared}
theorem args_maxD (a d : Value) : argsOk "max" ⟨[a], [("default", d)]⟩ := by unfold argsOk; kernel_rfl
theorem call_tree_kw {id : String} {b : Builtin} {args : List Value} {kw : List (Str × Value)} {Q : Value → Shared → Prop} (hk : builtinKind id = none) (hp : plainId id = true) (hb : entryFor table id = some b) (ha : argsOk id ⟨args, kw⟩)
    (hc : wpAny (model prog w) A.in1 (b ⟨args, kw⟩) (fun fin s' => match fin with
      | .done f => (match (Except.ok f : Result) with | .ok (.ret v) => Q v s' | .ok _ => False | .error e => E e s')
      | .again c' => c'.quiet = true ∧ codeAny (model prog w) A c' (fun r s' => match r with | .ok (.ret v) => Q v s' | .ok _ => False | .error e => E e s') s') E s) : wpAny (model prog w) A (call (.builtin id) args kw) Q E s := by
  refine wpAny_call (codeAny_call_builtin hp hb ?_)
  simp only [checkBuiltinCall, hk]
  cases sg : Manifest.signature? id with
  | none => exact wpAny_pure hc
  | some sig =>
    have hq : Bind.checkArgs id sig ⟨args, kw⟩ = pure () := by simpa only [argsOk, sg] using ha
    simp only [hq]
    exact wpAny_pure hc
theorem call_maxD {l : Addr} {xs : Array (Int × Tok)} {dv : Value} {Q : Value → Shared → Prop} (hh : A.handled = none) (hl : s.heap.IsList l (intItems xs))
    (h : ∀ v h' tk, ((xs.size = 0 ∧ v = dv) ∨ (0 < xs.size ∧ (intItems xs)[argBest (fun i j => decide (numAt xs i > numAt xs j)) (xs.size - 1)]? = some v)) → (∀ b o, s.heap.get? b = some o → h'.get? b = some o) → Q v { s with heap := h', toks := tk }) :
    wpAny (model prog w) A (call (.builtin "max") [.ref l] [("default", dv)]) Q E s := by
  refine call_tree_kw F.kind_max F.plain_max F.entry_max (args_maxD _ _) ?_
  show wpAny _ A.in1 (Builtin.Builtins.bindParams "max" ["key", "default"] 0 ⟨[], [("default", dv)]⟩ >>= _) _ _ s
  refine wpAny_bind (wpAny_of_eq (show Builtin.Builtins.bindParams "max" ["key", "default"] 0 ⟨[], [("default", dv)]⟩ = pure [none, some dv] from rfl) ?_)
  refine wpAny_bind (wpAny_pure (wpAny_bind (iter_intList hl fun s2 e st hfp hlI => ?_)))
  subst e
  refine wpAny_bind (wpAny_newObj_type ?_)
  rw [dfl_name]
  have nB : (s.heap.push { cls := .type "list_iterator", data := .fields #[.ref l, .int 0 0] }).objs.size ∉ [s.heap.objs.size, l] := fun hm => Nat.lt_irrefl _ (hfp _ hm)
  have W := Walks.list (prog := prog) (w := w) (A := A.in1) hh s.heap.objs.size l hlI (intItems xs)
  refine wpAny_pure ⟨plainId_quiet F.plain_max_loop _, maxD_first W _ (CmpOf.ints_gt (numAt xs) (fun _ _ => intItems_at)) _ nB (W.frame _ _ _ st fun b _ o e => Heap.get?_push_of_some _ e) (Heap.get?_push_size _ rfl) fun v h' tk hv hk => ?_⟩
  refine h v h' tk (by simpa [intItems] using hv) (old_kept fun b o hb e => hk b o hb (Nat.ne_of_lt (Heap.lt_size e)) (Heap.get?_push_of_some _ e))
end
section
variable {X : Cx}
def IsMaxD (ns : List Int) (d M : Int) : Prop := (ns = [] ∧ M = d) ∨ (M ∈ ns ∧ ∀ a ∈ ns, a ≤ M)
def rMaxD (K : PySem.W.Frag) : List V → List V → Hp → VK → Prop := fun xs ys H Q => ∃ (a : Addr) (ns : List Int) (d : Int), xs = [.ref a] ∧ ys = [.int d] ∧ SqL K H a (ns.map V.int) ∧ ∀ M, IsMaxD ns d M → Q (.int M) H
def tKw (r : List V → List V → Hp → VK → Prop) (t tk : TA) : TE := fun σ H Q => t σ H fun vs H1 => tk σ H1 fun zs H2 => r vs zs H2 Q
theorem pmaxD {e d : Expr} {p pos kpos : Pos} {te td : TE} (hm : X.mg "max" = none) (ha : PE X e te) (hd : PE X d td) (hc : X.calm = true := by rfl) (hg : Gl X "max" := by rfl)
    (he : starEach (e :: []) X.env = (false, eval e X.env) :: starEach [] X.env := by rfl) :
    PE X (.Call (.Name "max" p) [e] [⟨some "default", d, kpos⟩] pos) (tKw (rMaxD X.K) (tCons te tNil) (tCons td tNil)) := by
  intro pins s σ H Q I h
  refine wpAny_Call_Name_kw (ld_blt I hg hm PyProof.Rows.boot_max ?_)
  refine PyProof.Rows.callWith_kw (he := by rw [he]; rfl) (hplain := by rw [he]; rfl) (thn (pa_cons ha pa_nil he pos pins s σ H _ I h) fun us s1 ⟨vs, H1, I1, rv, q1⟩ => ?_)
  refine thn (pk_cons (nm := some "default") (kpos := kpos) hd pk_nil pos pins s1 σ H1 _ I1 q1) fun ws s2 ⟨zs, H2, I2, rz, q2⟩ => ?_
  obtain ⟨a, ns, dd, rfl, rfl, hS, q⟩ := q2
  obtain ⟨u, rfl, r1⟩ := vals1 rv
  obtain ⟨z, rfl, t, rfl⟩ := vals1 rz
  cases r1
  obtain ⟨its, vr, pl, hz⟩ := I2.list hS
  have ia := intsAre_of vr
  obtain ⟨xs, ex⟩ := ia.allInts.items
  have hns : ns = xs.toList.map (·.1) := by rw [← ia.numsOf, ← nums_intItems, ← ex]
  have hl : s2.heap.IsList a (intItems xs) := ex ▸ pl.isList
  refine call_maxD (I.ok.hd hc) hl fun v h' tk hv hk => ?_
  rcases hv with ⟨z0, rfl⟩ | ⟨z0, hv⟩
  · refine ⟨.int dd, H2, I2.kept hk, ⟨_, rfl⟩, q dd (.inl ⟨?_, rfl⟩)⟩
    rw [hns]
    exact List.map_eq_nil_iff.mpr (List.length_eq_zero_iff.mp (by simpa using z0))
  · obtain ⟨t', rfl⟩ := intItems_at hv
    obtain ⟨h1, h2⟩ := argBest_gt (numAt xs) (xs.size - 1)
    refine ⟨.int _, H2, I2.kept hk, ⟨_, rfl⟩, q _ (.inr ⟨?_, fun b hb => ?_⟩)⟩
    · rw [hns, numAt_eq]
      exact getD_mem (by rw [List.length_map, Array.length_toList]; omega)
    · rw [hns] at hb
      obtain ⟨j, hj, rfl⟩ := mem_getD hb
      rw [List.length_map, Array.length_toList] at hj
      rw [← numAt_eq]
      exact h2 j (by omega)
theorem rd_kw {σ : St} {H : Hp} {Q : VK} {r : List V → List V → Hp → VK → Prop} {t tk : TA} (h : t σ H fun vs H1 => tk σ H1 fun zs H2 => r vs zs H2 Q) : tKw r t tk σ H Q := h
theorem rd_maxD {K : PySem.W.Frag} {H : Hp} {Q : VK} {a : Addr} {ns : List Int} {d : Int} (e : SqL K H a (ns.map V.int)) (q : ∀ M, IsMaxD ns d M → Q (.int M) H) : rMaxD K [.ref a] [.int d] H Q := ⟨a, ns, d, rfl, rfl, e, q⟩
end
end L2

namespace L2
open PySem PySem.Spec PyProof.Rows
section
variable {prog : Program} {w : World} {A : Around} {E : Value → Shared → Prop} {s : Shared}
theorem two_of_list {l : Addr} {x y : Value} {Q : List Value → Shared → Prop} (hh : A.handled = none) (hl : s.heap.IsList l #[x, y])
    (hQ : ∀ h' tk, (∀ b o, s.heap.get? b = some o → h'.get? b = some o) → Q [x, y] { s with heap := h', toks := tk }) : wpAny (model prog w) A (unpackItems (.ref l) 2 none) Q E s := by
  have lt : l < s.heap.objs.size := by obtain ⟨_, e, _⟩ := hl; exact Heap.lt_size e
  have W := Walks.list (prog := prog) (w := w) (A := A) hh s.heap.objs.size l (Nat.ne_of_lt lt) #[x, y]
  unfold unpackItems
  refine wpAny_bind ?_
  unfold notIterableAtAll
  refine wpAny_bind (wpAny_specialOf hl.typeIs F.slot_list_iter.lookup (wpAny_pure ?_))
  simp only [Bool.false_eq_true, if_false]
  refine wpAny_bind (wpAny_holding (wpAny_pyIter_list hl ?_))
  refine wpAny_bind (wpAny_holding ?_)
  show wpAny _ _ (pyNext (.ref s.heap.objs.size) >>= _) _ _ _
  refine wpAny_bind (W.item 0 _ _ _ (by simp) ⟨⟨_, Heap.get?_push_size _ rfl, rfl, rfl⟩, hl.push _⟩ fun v h1 t1 hv st1 k1 => ?_)
  refine wpAny_bind (wpAny_holding ?_)
  show wpAny _ _ (pyNext (.ref s.heap.objs.size) >>= _) _ _ _
  refine wpAny_bind (W.item 1 _ _ _ (by simp) st1 fun v2 h2 t2 hv2 st2 k2 => ?_)
  refine wpAny_bind (wpAny_holding ?_)
  show wpAny _ _ (pure []) _ _ _
  refine wpAny_pure (wpAny_pure (wpAny_pure ?_))
  rw [if_neg (by simp)]
  refine wpAny_bind (wpAny_holding (W.done _ _ _ st2 fun h3 t3 k3 => ?_))
  simp only [Option.isSome_none, Bool.false_eq_true, if_false]
  refine wpAny_pure ?_
  have e1 : v = x := by simpa using hv.symm
  have e2 : v2 = y := by simpa using hv2.symm
  subst e1 e2
  refine hQ h3 t3 fun b o e => ?_
  have nb : b ∉ [s.heap.objs.size] := fun z => by
    have : b = s.heap.objs.size := by simpa using z
    exact absurd (this ▸ Heap.lt_size e) (Nat.lt_irrefl _)
  exact k3 b o nb (k2 b o nb (k1 b o nb (Heap.get?_push_of_some _ e)))
end
section
variable {X : Cx}
def gLst2 (K : PySem.W.Frag) (i j : Nat) : TG := fun v σ H Q => ∃ a x y, v = .ref a ∧ SqL K H a [x, y] ∧ Q ((σ.set i (some x)).set j (some y)) H
theorem pg_lst2 {e1 e2 : Expr} {k : Nat} {pos : Pos} {i j : Nat} (hc : X.calm = true) (h1 : PG X e1 (gName i)) (h2 : PG X e2 (gName j))
    (hn : (assignEach [e1, e2] X.env).length = 2 := by rfl) (hst : (assignEach [e1, e2] X.env).findIdx? (·.1) = none := by rfl) (hs : (assignEach (e1 :: [e2]) X.env).map (·.2) = assign e1 X.env :: (assignEach [e2] X.env).map (·.2) := by rfl)
    (hs2 : (assignEach (e2 :: []) X.env).map (·.2) = assign e2 X.env :: (assignEach [] X.env).map (·.2) := by rfl) : PG X (.Tuple [e1, e2] k pos) (gLst2 X.K i j) := by
  intro pins s σ H v u Q I r hw
  obtain ⟨a, x, y, rfl, hS, hw⟩ := hw
  cases r
  obtain ⟨its, rv, pl, hz⟩ := I.list hS
  obtain ⟨u1, u2, rfl, r1, r2⟩ := vals2 rv
  rw [assign_Tuple]
  refine wpAny_bind (wpAny_standAt ?_)
  unfold unpack
  rw [hn, hst]
  refine wpAny_bind (wpAny_holding (two_of_list (I.ok.hd hc) pl.isList fun h' tk kk => ?_))
  have I1 : Inv X pins σ H { s with heap := h', toks := tk } := I.kept kk
  exact pgs_cons h1 (pgs_cons h2 pgs_nil hs2) hs pins _ σ H [x, y] [u1, u2] Q I1 (.cons r1 (.cons r2 .nil)) ⟨x, [y], rfl, y, [], rfl, rfl, hw⟩
theorem rd_gTup2 {K : PySem.W.Frag} {σ : St} {H : Hp} {a : Addr} {x y : V} {i j : Nat} {σ' : St} {R : St → Hp → Prop} (e : SqT K H a [x, y]) (h1 : (σ.set i (some x)).set j (some y) = σ') (h : R σ' H) : gTup K 2 (gCons (gName i) (gCons (gName j) gNil)) (.ref a) σ H R :=
  ⟨a, [x, y], rfl, e, rfl, x, [y], rfl, y, [], rfl, rfl, by rw [h1]; exact h⟩
theorem rd_lst2 {K : PySem.W.Frag} {σ : St} {H : Hp} {a : Addr} {x y : V} {i j : Nat} {σ' : St} {R : St → Hp → Prop} (e : SqL K H a [x, y]) (h1 : (σ.set i (some x)).set j (some y) = σ') (h : R σ' H) : gLst2 K i j (.ref a) σ H R := ⟨a, x, y, rfl, e, by rw [h1]; exact h⟩
end
end L2

namespace SpM
theorem lexLt_lex : ∀ f g : List Int, HT.lexLt f g = lex f g
  | [], [] => rfl
  | [], _ :: _ => rfl
  | _ :: _, [] => rfl
  | x :: xs, y :: ys => by
    rw [HT.lexLt_cons, lex, lexLt_lex xs ys]
theorem form_append : ∀ {a b : List Int}, Form a → Form b → (∀ x ∈ a, ∀ y ∈ b, y + 2 ≤ x) → Form (a ++ b)
  | [], _, _, hb, _ => hb
  | x :: r, b, ha, hb, h => by
    have ih := form_append ha.tail hb fun x' hx y hy => h x' (List.mem_cons_of_mem _ hx) y hy
    refine Form.cons ih ha.head fun p hp => ?_
    rcases List.mem_append.mp hp with z | z
    · exact ha.mem_le p z
    · exact h x List.mem_cons_self p z
theorem form_ramp (c : Int) (hc : 0 ≤ c) : ∀ n : Nat, Form ((List.range n).map fun k => c + 2 * ((n : Int) - 1 - (k : Nat)))
  | 0 => trivial
  | n + 1 => by
    have ih := form_ramp c hc n
    rw [List.range_succ_eq_map, List.map_cons, List.map_map]
    have e : ((fun k : Nat => c + 2 * (((n + 1 : Nat) : Int) - 1 - (k : Nat))) ∘ Nat.succ) = fun k : Nat => c + 2 * ((n : Int) - 1 - (k : Nat)) := by
      funext k
      show c + 2 * (((n + 1 : Nat) : Int) - 1 - ((k + 1 : Nat) : Int)) = _
      omega
    rw [e]
    refine Form.cons ih (by omega) fun p hp => ?_
    obtain ⟨k, hk, rfl⟩ := List.mem_map.mp hp
    have := List.mem_range.mp hk
    omega
theorem thirds (r : Nat) (hr : r < 3) : ∀ n : Nat, ((List.range n).filter fun k : Nat => decide ((k : Int) % 3 = (r : Int))).length = (n + 2 - r) / 3
  | 0 => by simp; omega
  | n + 1 => by
    have ih := thirds r hr n
    rw [List.range_succ, List.filter_append, List.length_append, ih]
    by_cases c : (n : Int) % 3 = (r : Int)
    · rw [List.filter_cons, if_pos (decide_eq_true c)]
      simp only [List.filter_nil, List.length_cons, List.length_nil]
      omega
    · rw [List.filter_cons, if_neg (by simpa using c)]
      simp only [List.filter_nil, List.length_nil]
      omega
def sgn (x y : Int) : Int := if x < y then -1 else if y < x then 1 else 0
theorem sgn_neg (x y : Int) : sgn y x = -sgn x y := by
  unfold sgn
  split <;> split <;> first | omega | (split <;> omega) | rfl
theorem sgn_self (x : Int) : sgn x x = 0 := by
  unfold sgn
  simp
end SpM
namespace Sp
open PySem L2 SpM
theorem plenK {X : Cx} {K : PySem.W.Frag} {a : Expr} {ta : TE} {p pos : Pos} (hm : X.mg "len" = none) (ha : PE X a ta) (hK : X.K = K := by rfl) (hg : Gl X "len" := by rfl)
    (he : starEach (a :: []) X.env = (false, eval a X.env) :: starEach [] X.env := by rfl) (hpl : (backTo pos (starEach [] X.env)).any (·.1) = false := by rfl) :
    PE X (.Call (.Name "len" p) [a] [] pos) (tCB (rLen K) (tCons ta tNil)) := hK ▸ plen hm ha hg he hpl
theorem join2 {R : Addr → Addr → Hp → Prop} {G : Prop} (P : Addr → Addr → Hp → Prop) (h : (∀ x y H, P x y H → R x y H) → G) (k : ∀ x y H, P x y H → R x y H) : G := h k
theorem join1h {R : Addr → Hp → Prop} {G : Prop} (P : Addr → Hp → Prop) (h : (∀ x H, P x H → R x H) → G) (k : ∀ x H, P x H → R x H) : G := h k
def spCompared (_ : PySem.W.Frag) : Sp := fun vs H Q _ => ∃ (a b : Addr) (fs gs : List Int), vs = [.ref a, .ref b] ∧ H a = some (.lst (iv fs)) ∧ H b = some (.lst (iv gs)) ∧ fs.length ≤ lim ∧ gs.length ≤ lim ∧ Form fs ∧ Form gs ∧ ∀ H', Same H H' → Q (.int (sgn (val fs) (val gs))) H'
end Sp

namespace L2
open PySem PySem.Spec PyProof.Rows Sp
section
variable {X : Cx}
theorem strs_of : ∀ {ys : List Str} {us : List Value}, Vals (ys.map V.str) us → StrsAre us ys
  | [], _, .nil => .nil
  | _ :: _, _, .cons r t => by
    obtain ⟨t', rfl⟩ := r
    exact .cons _ t' (strs_of t)
def rJoin (K : PySem.W.Frag) : V → List V → Hp → VK → Prop := fun x xs H Q => ∃ (z : Str) (a : Addr) (ys : List Str), x = .str z ∧ xs = [.ref a] ∧ SqL K H a (ys.map V.str) ∧ (ys.map (·.length)).sum + ys.length * z.length ≤ 16777216 ∧ Q (.str (Txt.join z ys)) H
theorem mt_join : MtR X "str.join" (rJoin X.K) := by
  intro pins s σ H x xs v us Q I rx rs h
  obtain ⟨z, a, ys, rfl, rfl, hS, hz, q⟩ := h
  obtain ⟨t, rfl⟩ := rx
  obtain ⟨u, rfl, r1⟩ := vals1 rs
  cases r1
  obtain ⟨its, vr, p, _⟩ := I.list hS
  refine PyProof.Rows.join_list p.isList (by simpa using strs_of vr) hz fun t' k => ⟨.str _, H, I.tok _, ⟨_, rfl⟩, q⟩
theorem rd_join {K : PySem.W.Frag} {H : Hp} {Q : VK} {z : Str} {a : Addr} {ys : List Str} (e : SqL K H a (ys.map V.str)) (hz : (ys.map (·.length)).sum + ys.length * z.length ≤ 16777216) (q : Q (.str (Txt.join z ys)) H) : rJoin K (.str z) [.ref a] H Q := ⟨z, a, ys, rfl, rfl, e, hz, q⟩
theorem rd_tyS {K : PySem.W.Frag} {H : Hp} {z : Str} {A : Prop} (h : A) : tyV K "str" (.str z) H ∧ A := ⟨rfl, h⟩
end
section
variable {X : Cx} {a b : Expr} {ta tb : TE} {p pos : Pos}
def rMax2 : List V → Hp → VK → Prop := fun xs H Q => ∃ i j, xs = [.int i, .int j] ∧ Q (.int (if j > i then j else i)) H
theorem pmax2 (hm : X.mg "max" = none) (ha : PE X a ta) (hb : PE X b tb) (hc : X.calm = true := by rfl) (hg : Gl X "max" := by rfl)
    (he : starEach (a :: [b]) X.env = (false, eval a X.env) :: starEach [b] X.env := by rfl) (he2 : starEach (b :: []) X.env = (false, eval b X.env) :: starEach [] X.env := by rfl) (hpl : (backTo pos (starEach [b] X.env)).any (·.1) = false := by rfl) :
    PE X (.Call (.Name "max" p) [a, b] [] pos) (tCB rMax2 (tCons ta (tCons tb tNil))) :=
  pe_callB (call_max2 hc) hg hm PyProof.Rows.boot_max (pa_cons ha (pa_cons hb pa_nil he2) he) (by decide) (by decide) he hpl
theorem rd_max2 {H : Hp} {Q : VK} {i j : Int} (q : Q (.int (if j > i then j else i)) H) : rMax2 [.int i, .int j] H Q := ⟨i, j, rfl, q⟩
def rTupOf (K : PySem.W.Frag) : List V → Hp → VK → Prop := fun xs H Q => ∃ p ys, xs = [.ref p] ∧ ((SqL K H p ys ∧ ∀ l, H l = none → Q (.ref l) (upd H l (.tup ys))) ∨ (SqT K H p ys ∧ Q (.ref p) H))
theorem ptuple (hm : X.mg "tuple" = none) (ha : PE X a ta) (hg : Gl X "tuple" := by rfl) (he : starEach (a :: []) X.env = (false, eval a X.env) :: starEach [] X.env := by rfl) (hpl : (backTo pos (starEach [] X.env)).any (·.1) = false := by rfl) :
    PE X (.Call (.Name "tuple" p) [a] [] pos) (tCB (rTupOf X.K) (tCons ta tNil)) := pe_callTy call_tuple_of hg hm PyProof.Rows.Boot.«tuple» (pa_cons ha pa_nil he) (by decide) (by decide) he hpl
theorem rd_tupOf {K : PySem.W.Frag} {H : Hp} {Q : VK} {a : Addr} {xs : List V} (e : SqL K H a xs) (q : NewO H Q (.tup xs)) : rTupOf K [.ref a] H Q := ⟨a, xs, rfl, .inl ⟨e, q⟩⟩
theorem rd_rep {H : Hp} {Q : VK} {a : Addr} {xs : List V} {k : Int} (e : H a = some (.lst xs)) (h1 : -(2 ^ 63) ≤ k) (h2 : k < 2 ^ 63) (hz : xs.length * k.toNat ≤ sizeLine) (q : NewO H Q (.lst (List.replicate k.toNat xs).flatten)) : rRep (.ref a) (.int k) H Q := ⟨a, k, xs, rfl, rfl, e, h1, h2, hz, q⟩
theorem rd_set {H : Hp} {p : Addr} {xs : List V} {k : Int} {j : Nat} {v : V} {Q : Hp → Prop} (e : H p = some (.lst xs)) (hj : ixN xs.length k = some j) (q : Q (upd H p (.lst (xs.set j v)))) : rSetL (.ref p) (.int k) v H Q := ⟨p, xs, k, j, rfl, rfl, e, hj, q⟩
theorem rd_app {H : Hp} {R : VK} {a : Addr} {xs : List V} {y : V} (e : H a = some (.lst xs)) (hz : xs.length < sizeLine)
    (k : ∀ H2, (∀ b o, b ≠ a → H b = some o → H2 b = some o) → (∀ H0, H0 a = none → Same H0 H → Same H0 H2) → H2 a = some (.lst (xs ++ [y])) → R .non H2) : rAppend (.ref a) [y] H R :=
  rd_append e hz (k _ (fun b o n q => upd_at n q) (fun H0 n s => same_put' n s) upd_same)
theorem rd_setI {H : Hp} {p : Addr} {xs : List V} {k : Int} {j : Nat} {v : V} {Q : Hp → Prop} (e : H p = some (.lst xs)) (hj : ixN xs.length k = some j)
    (q : ∀ H2, (∀ b o, b ≠ p → H b = some o → H2 b = some o) → (∀ H0, H0 p = none → Same H0 H → Same H0 H2) → H2 p = some (.lst (xs.set j v)) → Q H2) : rSetL (.ref p) (.int k) v H Q :=
  rd_set e hj (q _ (fun b o n z => upd_at n z) (fun H0 n s => same_put' n s) upd_same)
theorem rd_gSub {to ti : TE} {t : TSet} {v : V} {σ : St} {H : Hp} {Q : St → Hp → Prop} (h : to σ H fun o H1 => ti σ H1 fun i H2 => t o i v H2 fun H3 => Q σ H3) : gSub to ti t v σ H Q := h
end
end L2
namespace Sp
open PySem L2 SpM
theorem joinIH {R : Int → Hp → Prop} {G : Prop} (P : Int → Hp → Prop) (h : (∀ x H, P x H → R x H) → G) (k : ∀ x H, P x H → R x H) : G := h k
theorem joinI {R : Int → Prop} {G : Prop} (P : Int → Prop) (h : (∀ x, P x → R x) → G) (k : ∀ x, P x → R x) : G := h k
end Sp

namespace L2
open PySem PySem.Spec PyProof.Rows
section
variable {κ : Type} [DecidableEq κ]
def valV (kvs : List (κ × V)) (k : κ) : Option V := (kvs.find? fun kv => decide (kv.1 = k)).map (·.2)
def putK (kvs : List (κ × V)) (k : κ) (v : V) : List (κ × V) :=
  if (kvs.any fun kv => decide (kv.1 = k)) = true then kvs.map (fun kv => if kv.1 = k then (kv.1, v) else kv) else kvs ++ [(k, v)]
def dropK (kvs : List (κ × V)) (k : κ) : List (κ × V) := kvs.filter fun kv => decide (kv.1 ≠ k)

theorem valV_nil {k : κ} : valV ([] : List (κ × V)) k = none := rfl
theorem valV_pos {p : κ × V} {r : List (κ × V)} {k : κ} (e : p.1 = k) : valV (p :: r) k = some p.2 := by simp [valV, List.find?_cons, e]
theorem valV_neg {p : κ × V} {r : List (κ × V)} {k : κ} (e : ¬ p.1 = k) : valV (p :: r) k = valV r k := by simp [valV, List.find?_cons, e]
theorem valV_any (k : κ) : ∀ kvs : List (κ × V), (kvs.any fun kv => decide (kv.1 = k)) = (valV kvs k).isSome
  | [] => rfl
  | p :: r => by
    rw [List.any_cons]
    by_cases e : p.1 = k
    · simp only [valV_pos e, decide_eq_true e, Bool.true_or, Option.isSome_some]
    · rw [valV_neg e, decide_eq_false e, Bool.false_or]; exact valV_any k r
theorem valV_map (k j : κ) (y : V) : ∀ kvs : List (κ × V), valV (kvs.map fun kv => if kv.1 = k then (kv.1, y) else kv) j = (valV kvs j).map fun x => if j = k then y else x
  | [] => rfl
  | p :: r => by
    have ih := valV_map k j y r
    rw [List.map_cons]
    by_cases h : p.1 = k
    · rw [if_pos h]
      by_cases e : p.1 = j
      · rw [valV_pos (p := (p.1, y)) e, valV_pos e, Option.map_some, if_pos (e.symm.trans h)]
      · rw [valV_neg (p := (p.1, y)) e, valV_neg e, ih]
    · rw [if_neg h]
      by_cases e : p.1 = j
      · rw [valV_pos (p := p) e, valV_pos e, Option.map_some, if_neg (fun z => h (e.trans z))]
      · rw [valV_neg (p := p) e, valV_neg e, ih]
theorem valV_snoc (k j : κ) (y : V) : ∀ kvs : List (κ × V), valV kvs k = none → valV (kvs ++ [(k, y)]) j = if j = k then some y else valV kvs j
  | [], _ => by
    by_cases e : k = j
    · rw [if_pos e.symm]; exact valV_pos (p := (k, y)) e
    · rw [if_neg (fun z => e z.symm)]; exact valV_neg (p := (k, y)) e
  | p :: r, hn => by
    rw [List.cons_append]
    have hk : ¬ p.1 = k := fun z => by rw [valV_pos z] at hn; cases hn
    rw [valV_neg hk] at hn
    have ih := valV_snoc k j y r hn
    by_cases e : p.1 = j
    · rw [valV_pos e, valV_pos e, if_neg (fun z => hk (e.trans z))]
    · rw [valV_neg e, valV_neg e, ih]
theorem valV_put (kvs : List (κ × V)) (k j : κ) (y : V) : valV (putK kvs k y) j = if j = k then some y else valV kvs j := by
  unfold putK
  by_cases a : (kvs.any fun kv => decide (kv.1 = k)) = true
  · rw [if_pos a, valV_map]
    rw [valV_any] at a
    by_cases e : j = k
    · obtain ⟨x, hx⟩ := Option.isSome_iff_exists.mp a
      rw [if_pos e, e, hx, Option.map_some, if_pos rfl]
    · rw [if_neg e]
      cases valV kvs j with
      | none => rfl
      | some x => rw [Option.map_some, if_neg e]
  · rw [if_neg a]
    refine valV_snoc k j y kvs ?_
    rw [valV_any] at a
    cases q : valV kvs k with
    | none => rfl
    | some x => rw [q] at a; exact (a rfl).elim
theorem length_putK (kvs : List (κ × V)) (k : κ) (v : V) : (putK kvs k v).length ≤ kvs.length + 1 := by
  unfold putK
  split
  · rw [List.length_map]; omega
  · rw [List.length_append, List.length_cons, List.length_nil]; omega
theorem putK_new {kvs : List (κ × V)} {k : κ} (v : V) (h : valV kvs k = none) : putK kvs k v = kvs ++ [(k, v)] := by
  unfold putK
  rw [valV_any, h]
  exact if_neg (by decide)

theorem RelO.isSome_eq {o : Option V} {u : Option Value} (r : RelO o u) : o.isSome = u.isSome := by
  cases o with
  | none => cases u with
    | none => rfl
    | some _ => exact (show False from r).elim
  | some _ => cases u with
    | none => exact (show False from r).elim
    | some _ => rfl
theorem RelO.getD {o : Option V} {u : Option Value} {d : V} {d' : Value} (r : RelO o u) (rd : RelV d d') : RelV (o.getD d) (u.getD d') := by
  cases o with
  | none => cases u with
    | none => exact rd
    | some _ => exact (show False from r).elim
  | some _ => cases u with
    | none => exact (show False from r).elim
    | some _ => exact r

theorem KV.val {kvs : List (κ × V)} {vs : List (κ × Value)} (r : KV kvs vs) (k : κ) : RelO (valV kvs k) (valueAt vs k) := by
  unfold KV at r
  induction r with
  | nil => exact True.intro
  | @cons p q ps qs h t ih =>
    obtain ⟨h1, h2⟩ := h
    by_cases e : p.1 = k
    · have e' : q.1 = k := h1.symm.trans e
      have b : valueAt (q :: qs) k = some q.2 := by simp [valueAt, List.find?_cons, e']
      rw [valV_pos e, b]; exact h2
    · have e' : ¬ q.1 = k := fun z => e (h1.trans z)
      have b : valueAt (q :: qs) k = valueAt qs k := by simp [valueAt, List.find?_cons, e']
      rw [valV_neg e, b]; exact ih
theorem KV.any {kvs : List (κ × V)} {vs : List (κ × Value)} (r : KV kvs vs) (k : κ) : (kvs.any fun kv => decide (kv.1 = k)) = vs.any fun kv => decide (kv.1 = k) := by
  unfold KV at r
  induction r with
  | nil => rfl
  | cons h t ih => rw [List.any_cons, List.any_cons, ih, h.1]
theorem KV.repl {kvs : List (κ × V)} {vs : List (κ × Value)} (r : KV kvs vs) (k : κ) {y : V} {u : Value} (ry : RelV y u) :
    KV (kvs.map fun kv => if kv.1 = k then (kv.1, y) else kv) (vs.map fun kv => if kv.1 = k then (kv.1, u) else kv) := by
  unfold KV at r ⊢
  induction r with
  | nil => exact .nil
  | @cons p q ps qs h t ih =>
    rw [List.map_cons, List.map_cons]
    refine .cons ?_ ih
    obtain ⟨h1, h2⟩ := h
    by_cases e : p.1 = k
    · rw [if_pos e, if_pos (h1.symm.trans e)]; exact ⟨h1, ry⟩
    · rw [if_neg e, if_neg (fun z => e (h1.trans z))]; exact ⟨h1, h2⟩
theorem KV.put {kvs : List (κ × V)} {vs : List (κ × Value)} (r : KV kvs vs) (k : κ) {y : V} {u : Value} (ry : RelV y u) : KV (putK kvs k y) (stored vs k u) := by
  unfold putK stored
  rw [r.any k]
  by_cases e : (vs.any fun kv => decide (kv.1 = k)) = true
  · rw [if_pos e, if_pos e]; exact r.repl k ry
  · rw [if_neg e, if_neg e]; exact Paired.snoc r ⟨rfl, ry⟩
theorem KV.drop {kvs : List (κ × V)} {vs : List (κ × Value)} (r : KV kvs vs) (k : κ) : KV (dropK kvs k) (without vs k) := by
  unfold KV at r ⊢
  unfold dropK without
  induction r with
  | nil => exact .nil
  | @cons p q ps qs h t ih =>
    obtain ⟨h1, h2⟩ := h
    rw [List.filter_cons, List.filter_cons]
    by_cases e : p.1 = k
    · have a : ¬ decide (p.1 ≠ k) = true := by simp [e]
      have b : ¬ decide (q.1 ≠ k) = true := by simp [h1.symm.trans e]
      rw [if_neg a, if_neg b]; exact ih
    · have e' : ¬ q.1 = k := fun z => e (h1.trans z)
      have a : decide (p.1 ≠ k) = true := by simp [e]
      have b : decide (q.1 ≠ k) = true := by simp [e']
      rw [if_pos a, if_pos b]; exact .cons ⟨h1, h2⟩ ih
theorem KV.keys {kvs : List (κ × V)} {vs : List (κ × Value)} (r : KV kvs vs) : kvs.map (·.1) = vs.map (·.1) := by
  unfold KV at r
  induction r with
  | nil => rfl
  | cons h t ih => rw [List.map_cons, List.map_cons, ih, h.1]
theorem KV.length {kvs : List (κ × V)} {vs : List (κ × Value)} (r : KV kvs vs) : kvs.length = vs.length := Paired.length r
theorem dropK_le (kvs : List (κ × V)) (k : κ) : (dropK kvs k).length ≤ kvs.length := List.length_filter_le _ _
end


theorem kV_is {P : Program} {w : World} {k : Key} {u : Value} (r : RelV (kV k) u) : (mixKind P w).is k u = true := by
  cases k with
  | inl i => obtain ⟨t, e⟩ := (show ∃ t, u = Value.int i t from r); subst e; exact mixKind_int P w i t
  | inr x => obtain ⟨t, e⟩ := (show ∃ t, u = Value.str x t from r); subst e; exact mixKind_str P w x t
theorem kV_inj {a b : Key} (e : kV a = kV b) : a = b := by
  cases a with
  | inl i => cases b with
    | inl j => have e' : V.int i = V.int j := e; injection e' with e'; rw [e']
    | inr y => exact nomatch (show V.int i = V.str y from e)
  | inr x => cases b with
    | inl j => exact nomatch (show V.str x = V.int j from e)
    | inr y => have e' : V.str x = V.str y := e; injection e' with e'; rw [e']
theorem kVs_inj : ∀ {a b : List Key}, a.map kV = b.map kV → a = b
  | [], [], _ => rfl
  | [], _ :: _, e => by simp at e
  | _ :: _, [], e => by simp at e
  | x :: xs, y :: ys, e => by
    rw [List.map_cons, List.map_cons] at e
    injection e with e1 e2
    rw [kV_inj e1, kVs_inj e2]
theorem items_are {P : Program} {w : World} : ∀ {ks : List Key} {us : List Value}, Vals (ks.map kV) us → ItemsAre (mixKind P w) ks us
  | [], _, r => by rw [List.map_nil] at r; cases r; exact .nil
  | k :: ks, _, r => by
    rw [List.map_cons] at r
    cases r with
    | cons h t => exact .cons (kV_is h) (items_are t)

abbrev KT (H : Hp) : List (List Key × V) → List (List Key × Addr × Value) → Prop := Paired fun p q => p.1 = q.1 ∧ H q.2.1 = some (.tup (p.1.map kV)) ∧ RelV p.2 q.2.2
theorem KT.val {H : Hp} {kvs : List (List Key × V)} {xs : List (List Key × Addr × Value)} (r : KT H kvs xs) (k : List Key) : RelO (valV kvs k) ((atKey xs k).map (·.2)) := by
  induction r with
  | nil => exact True.intro
  | @cons p q ps qs h t ih =>
    obtain ⟨h1, _, h2⟩ := h
    by_cases e : p.1 = k
    · have e' : q.1 = k := h1.symm.trans e
      have b : atKey (q :: qs) k = some q.2 := by simp [atKey, List.find?_cons, e']
      rw [valV_pos e, b]; exact h2
    · have e' : ¬ q.1 = k := fun z => e (h1.trans z)
      have b : atKey (q :: qs) k = atKey qs k := by simp [atKey, List.find?_cons, e']
      rw [valV_neg e, b]; exact ih
theorem KT.repl {H : Hp} {kvs : List (List Key × V)} {xs : List (List Key × Addr × Value)} (r : KT H kvs xs) (k : List Key) {y : V} {u : Value} (ry : RelV y u) :
    KT H (kvs.map fun kv => if kv.1 = k then (kv.1, y) else kv) (xs.map (putAt k u)) := by
  induction r with
  | nil => exact .nil
  | @cons p q ps qs h t ih =>
    rw [List.map_cons, List.map_cons]
    refine .cons ?_ ih
    obtain ⟨h1, h2, h3⟩ := h
    unfold putAt
    by_cases e : p.1 = k
    · rw [if_pos e, if_pos (h1.symm.trans e)]; exact ⟨h1, h2, ry⟩
    · rw [if_neg e, if_neg (fun z => e (h1.trans z))]; exact ⟨h1, h2, h3⟩
theorem KT.put {H : Hp} {kvs : List (List Key × V)} {xs : List (List Key × Addr × Value)} (r : KT H kvs xs) (k : List Key) {b : Addr} {y : V} {u : Value} (hb : H b = some (.tup (k.map kV))) (ry : RelV y u) :
    KT H (putK kvs k y) (storedH xs k b u) := by
  have e : (kvs.any fun kv => decide (kv.1 = k)) = (atKey xs k).isSome := by
    rw [valV_any, (r.val k).isSome_eq, Option.isSome_map]
  unfold putK storedH
  rw [e]
  by_cases q : (atKey xs k).isSome = true
  · rw [if_pos q, if_pos q]; exact r.repl k ry
  · rw [if_neg q, if_neg q]; exact Paired.snoc r ⟨rfl, hb, ry⟩
theorem KT.keeps {H H' : Hp} {kvs : List (List Key × V)} {xs : List (List Key × Addr × Value)} (r : KT H kvs xs) (ht : ∀ b ys, H b = some (.tup ys) → H' b = some (.tup ys)) : KT H' kvs xs :=
  Paired.mapP r fun _ _ z => ⟨z.1, ht _ _ z.2.1, z.2.2⟩

section
variable {P : Program} {w : World} {H : Hp} {h : Heap} {a : Addr}
theorem rd_of {u : HO} (ok : HOk P w H h) (e : Rd H a u) : ObjOk P w H h a u := e.ok ok
theorem dk_rd {kvs : List (Key × V)} (ok : HOk P w H h) (e : Rd H a (.dK kvs)) : kvs.length ≤ sizeLine ∧ (a == sysModules) = false ∧ ∃ vs, KV kvs vs ∧ h.DictOf (mixKind P w) a vs :=
  show ObjOk P w H h a (.dK kvs) from rd_of ok e
theorem dk_of {kvs : List (Key × V)} (ok : HOk P w H h) (e : H a = some (.dK kvs)) : kvs.length ≤ sizeLine ∧ (a == sysModules) = false ∧ ∃ vs, KV kvs vs ∧ h.DictOf (mixKind P w) a vs := dk_rd ok (.inl e)
theorem key_of {ks : List Key} (ok : HOk P w H h) (e : H a = some (.tup (ks.map kV))) : (tupleKind (mixKind P w)).is h ks a := by
  obtain ⟨_, its, r, o, h1, h2, n, h3⟩ := (show ObjOk P w H h a (.tup (ks.map kV)) from ok a _ e)
  exact ⟨o, its.toArray, n, h1, h2, h3, by simpa using items_are r⟩
theorem dt_rd {kvs : List (List Key × V)} (ok : HOk P w H h) (e : Rd H a (.dT kvs)) : kvs.length ≤ sizeLine ∧ (a == sysModules) = false ∧
    ∃ xs, KT H kvs xs ∧ h.DictOfH (tupleKind (mixKind P w)) a xs := by
  obtain ⟨z, y, xs, r, o, es, ep, h1, h2, h3, h4, h5⟩ := (show ObjOk P w H h a (.dT kvs) from rd_of ok e)
  refine ⟨z, y, xs, r, o, es, ep, h1, h2, h3, h4, fun x hx => ?_, h5⟩
  have all : ∀ {l : List (List Key × V)} {m : List (List Key × Addr × Value)}, KT H l m → ∀ x ∈ m, (tupleKind (mixKind P w)).is h x.1 x.2.1 := by
    intro l m q
    induction q with
    | nil => intro x hx; exact nomatch hx
    | @cons p q ps qs hq t ih =>
      intro x hx
      rcases List.mem_cons.mp hx with e | hx
      · subst e
        exact key_of ok (by rw [← hq.1]; exact hq.2.1)
      · exact ih x hx
  exact all r x hx
theorem dt_of {kvs : List (List Key × V)} (ok : HOk P w H h) (e : H a = some (.dT kvs)) : kvs.length ≤ sizeLine ∧ (a == sysModules) = false ∧
    ∃ xs, KT H kvs xs ∧ h.DictOfH (tupleKind (mixKind P w)) a xs := dt_rd ok (.inl e)
end

def DGet (H : Hp) (a : Addr) (y : V) (r : Option V) : Prop :=
  (∃ kvs k, Rd H a (.dK kvs) ∧ y = kV k ∧ r = valV kvs k) ∨ ∃ kvs k b, Rd H a (.dT kvs) ∧ y = .ref b ∧ H b = some (.tup (k.map kV)) ∧ r = valV kvs k
def DPut (H : Hp) (a : Addr) (y v : V) (H' : Hp) : Prop :=
  (∃ kvs k, H a = some (.dK kvs) ∧ y = kV k ∧ kvs.length < sizeLine ∧ H' = upd H a (.dK (putK kvs k v))) ∨
  ∃ kvs k b, H a = some (.dT kvs) ∧ y = .ref b ∧ H b = some (.tup (k.map kV)) ∧ kvs.length < sizeLine ∧ H' = upd H a (.dT (putK kvs k v))
theorem DGet.k {H : Hp} {a : Addr} {kvs : List (Key × V)} {k : Key} (e : H a = some (.dK kvs)) : DGet H a (kV k) (valV kvs k) := .inl ⟨kvs, k, .inl e, rfl, rfl⟩
theorem DGet.t {H : Hp} {a b : Addr} {kvs : List (List Key × V)} {k : List Key} (e : H a = some (.dT kvs)) (eb : H b = some (.tup (k.map kV))) : DGet H a (.ref b) (valV kvs k) := .inr ⟨kvs, k, b, .inl e, rfl, eb, rfl⟩
theorem DPut.k {H : Hp} {a : Addr} {kvs : List (Key × V)} {k : Key} {v : V} (e : H a = some (.dK kvs)) (hl : kvs.length < sizeLine) : DPut H a (kV k) v (upd H a (.dK (putK kvs k v))) := .inl ⟨kvs, k, e, rfl, hl, rfl⟩
theorem DPut.t {H : Hp} {a b : Addr} {kvs : List (List Key × V)} {k : List Key} {v : V} (e : H a = some (.dT kvs)) (eb : H b = some (.tup (k.map kV))) (hl : kvs.length < sizeLine) :
    DPut H a (.ref b) v (upd H a (.dT (putK kvs k v))) := .inr ⟨kvs, k, b, e, rfl, eb, hl, rfl⟩


section
variable {X : Cx} {pins : List (Addr × Obj)} {σ : St} {H : Hp} {s : Shared} {a : Addr} {y v : V} {u r : Value} {o : Option V} {A : Around} {E : Value → Shared → Prop}

theorem d_getItem {Q : Value → Shared → Prop} (hu : A.units + 1 < cLine) (I : Inv X pins σ H s) (g : DGet H a y (some v)) (ry : RelV y u) (h : ∀ w' s', Inv X pins σ H s' → RelV v w' → Q w' s') :
    wpAny (model X.prog X.w) A (getItem (.ref a) u) Q E s := by
  rcases g with ⟨kvs, k, e, ey, l⟩ | ⟨kvs, k, b, e, ey, eb, l⟩
  · subst ey
    obtain ⟨z, hd, vs, rel, dd⟩ := dk_rd I.hok e
    obtain ⟨w', hw, rw'⟩ := RelO.some_of (v := v) (o := valueAt vs k) (by rw [l]; exact rel.val k)
    exact wpAny_getItem_of (kV_is ry) dd.mapOf hw (h w' _ (I.tok _) rw')
  · subst ey
    cases (show u = Value.ref b from ry)
    obtain ⟨z, hd, xs, rel, dd⟩ := dt_rd I.hok e
    obtain ⟨w', hw, rw'⟩ := RelO.some_of (v := v) (o := (atKey xs k).map (·.2)) (by rw [l]; exact rel.val k)
    obtain ⟨p, hp, hp2⟩ := Option.map_eq_some_iff.mp hw
    refine wpAny_getItem_heap (tupleKind_room_in1 hu) (key_of I.hok eb) dd hp ?_
    rw [hp2]
    exact h w' _ (I.tok _) rw'
theorem d_in {Q : Value → Shared → Prop} (hu : A.units + 1 < cLine) (I : Inv X pins σ H s) (g : DGet H a y o) (ry : RelV y u) (h : ∀ s', Inv X pins σ H s' → Q (.bool o.isSome) s') :
    wpAny (model X.prog X.w) A (compareOp .In u (.ref a)) Q E s := by
  rcases g with ⟨kvs, k, e, ey, l⟩ | ⟨kvs, k, b, e, ey, eb, l⟩
  · subst ey
    obtain ⟨z, hd, vs, rel, dd⟩ := dk_rd I.hok e
    refine wpAny_in_of (kV_is ry) hd dd.mapOf ?_
    rw [← (rel.val k).isSome_eq, ← l]
    exact h _ (I.tok _)
  · subst ey
    cases (show u = Value.ref b from ry)
    obtain ⟨z, hd, xs, rel, dd⟩ := dt_rd I.hok e
    refine wpAny_in_heap (tupleKind_room_in1 hu) (key_of I.hok eb) hd dd ?_
    have q := (rel.val k).isSome_eq
    rw [Option.isSome_map] at q
    rw [← q, ← l]
    exact h _ (I.tok _)
theorem d_notIn {Q : Value → Shared → Prop} (hu : A.units + 1 < cLine) (I : Inv X pins σ H s) (g : DGet H a y o) (ry : RelV y u) (h : ∀ s', Inv X pins σ H s' → Q (.bool (!o.isSome)) s') :
    wpAny (model X.prog X.w) A (compareOp .NotIn u (.ref a)) Q E s := by
  rcases g with ⟨kvs, k, e, ey, l⟩ | ⟨kvs, k, b, e, ey, eb, l⟩
  · subst ey
    obtain ⟨z, hd, vs, rel, dd⟩ := dk_rd I.hok e
    refine wpAny_notIn_of (kV_is ry) hd dd.mapOf ?_
    rw [← (rel.val k).isSome_eq, ← l]
    exact h _ (I.tok _)
  · subst ey
    cases (show u = Value.ref b from ry)
    obtain ⟨z, hd, xs, rel, dd⟩ := dt_rd I.hok e
    refine wpAny_notIn_heap (tupleKind_room_in1 hu) (key_of I.hok eb) hd dd ?_
    have q := (rel.val k).isSome_eq
    rw [Option.isSome_map] at q
    rw [← q, ← l]
    exact h _ (I.tok _)
theorem d_write {h' : Heap} {t' : Nat} {ob : HO} (I : Inv X pins σ H s) (mu : Mut (H a)) (hs : Heap.SameBut a s.heap h') (he : ∃ q, h'.get? a = some q) (new : ObjOk X.prog X.w (upd H a ob) h' a ob) :
    Inv X pins σ (upd H a ob) { s with heap := h', toks := t' } :=
  I.write (x := a) (e := a) mu (.inl rfl) (fun b q hb z => (hs.2 b hb).trans z) he new
theorem dk_new {P : Program} {w : World} {H' : Hp} {h' : Heap} {kvs : List (Key × V)} {vs : List (Key × Value)} (z : kvs.length ≤ sizeLine) (hd : (a == sysModules) = false) (rel : KV kvs vs) (dd : h'.DictOf (mixKind P w) a vs) :
    ObjOk P w H' h' a (.dK kvs) := ⟨z, hd, vs, rel, dd⟩
theorem d_setItem {H' : Hp} {Q : Unit → Shared → Prop} (hu : A.units + 1 < cLine) (I : Inv X pins σ H s) (g : DPut H a y v H') (ry : RelV y u) (rv : RelV v r) (h : ∀ s', Inv X pins σ H' s' → Q () s') :
    wpAny (model X.prog X.w) A (setItem (.ref a) u r) Q E s := by
  rcases g with ⟨kvs, k, e, ey, l, eH⟩ | ⟨kvs, k, b, e, ey, eb, l, eH⟩
  · subst ey eH
    obtain ⟨z, hd, vs, rel, dd⟩ := dk_of I.hok e
    have hz : vs.length ≤ sizeLine := by rw [← rel.length]; exact z
    have hl : (putK kvs k v).length ≤ sizeLine := by have := length_putK kvs k v; omega
    refine wpAny_setItem_pairs (hsz := hz) (kV_is ry) dd fun h' dd' hs => h _ ?_
    have he : ∃ q, h'.get? a = some q := let ⟨q, _, _, hq, _⟩ := dd'; ⟨q, hq⟩
    exact d_write I (by rw [e]; exact True.intro) hs he (dk_new hl hd (rel.put k rv) dd')
  · subst ey eH
    cases (show u = Value.ref b from ry)
    obtain ⟨z, hd, xs, rel, dd⟩ := dt_of I.hok e
    have hz : xs.length ≤ sizeLine := by rw [← Paired.length rel]; exact z
    have hl : (putK kvs k v).length ≤ sizeLine := by have := length_putK kvs k v; omega
    refine wpAny_setItem_heap (hsz := hz) (tupleKind_room_in1 hu) (key_of I.hok eb) dd fun h' dd' hs => h _ ?_
    obtain ⟨q, es, ep, hq, h2, h3, h4, _, h5⟩ := dd'
    refine d_write I (by rw [e]; exact True.intro) hs ⟨q, hq⟩ ⟨hl, hd, _, (rel.put k eb rv).keeps fun c ys ec => ?_, q, es, ep, hq, h2, h3, h4, h5⟩
    rw [upd_ne (ne_of ec e (fun z => nomatch z))]
    exact ec
end

section
variable {X : Cx} {pins : List (Addr × Obj)} {σ : St} {H : Hp} {s : Shared} {a : Addr} {kvs : List (Key × V)} {k : Key} {u : Value} {A : Around} {E : Value → Shared → Prop}
theorem d_delItem {Q : Unit → Shared → Prop} (I : Inv X pins σ H s) (e : H a = some (.dK kvs)) (ry : RelV (kV k) u) (l : (valV kvs k).isSome = true) (h : ∀ s', Inv X pins σ (upd H a (.dK (dropK kvs k))) s' → Q () s') :
    wpAny (model X.prog X.w) A (delItem (.ref a) u) Q E s := by
  obtain ⟨z, hd, vs, rel, dd⟩ := dk_of I.hok e
  refine wpAny_delItem_slot dd.typeIs (by decide) PySem.F.slot_dict_delitem
    (call_meetsIn PySem.F.slot_dict_delitem dd.typeIs PySem.F.entry_dict_delitem (PySem.F.args_dict_delitem_2 _ _) (meets_dict_delitem_pairs (mixKind X.prog X.w) a (kV_is ry)) ⟨vs, dd, by rw [← rel.length]; exact z, by rw [← (rel.val k).isSome_eq]; exact l, fun h' dd' hs => h _ ?_⟩)
  have he : ∃ q, h'.get? a = some q := let ⟨q, _, _, hq, _⟩ := dd'; ⟨q, hq⟩
  exact d_write I (by rw [e]; exact True.intro) hs he (dk_new (Nat.le_trans (dropK_le kvs k) z) hd (rel.drop k) dd')
theorem d_pop {v : V} {more : List Value} {Q : Value → Shared → Prop} (I : Inv X pins σ H s) (e : H a = some (.dK kvs)) (ry : RelV (kV k) u) (l : valV kvs k = some v) (hm : more = [] ∨ ∃ x, more = [x])
    (h : ∀ w' s', Inv X pins σ (upd H a (.dK (dropK kvs k))) s' → RelV v w' → Q w' s') : wpAny (model X.prog X.w) A (call (.builtin "dict.pop") (.ref a :: u :: more)) Q E s := by
  obtain ⟨z, hd, vs, rel, dd⟩ := dk_of I.hok e
  obtain ⟨w', hw, rw'⟩ := RelO.some_of (v := v) (o := valueAt vs k) (by rw [← l]; exact rel.val k)
  have hp : (keyPart u).isSome = true := by
    cases k with
    | inl i => obtain ⟨t, q⟩ := (show ∃ t, u = Value.int i t from ry); subst q; rfl
    | inr x => obtain ⟨t, q⟩ := (show ∃ t, u = Value.str x t from ry); subst q; rfl
  have ha : argsOk "dict.pop" ⟨.ref a :: u :: more, []⟩ := by
    rcases hm with q | ⟨x, q⟩
    · subst q; exact PySem.F.args_dict_pop_2 _ _
    · subst q; exact PySem.F.args_dict_pop_3 _ _ _
  refine call_meetsIn PySem.F.slot_dict_pop dd.typeIs PySem.F.entry_dict_pop ha (meets_dict_pop_there (mixKind X.prog X.w) a (kV_is ry) more hm hp)
    ⟨vs, w', dd, by rw [← rel.length]; exact z, hw, fun h' dd' hs => h w' _ ?_ rw'⟩
  have he : ∃ q, h'.get? a = some q := let ⟨q, _, _, hq, _⟩ := dd'; ⟨q, hq⟩
  exact d_write I (by rw [e]; exact True.intro) hs he (dk_new (Nat.le_trans (dropK_le kvs k) z) hd (rel.drop k) dd')
theorem d_popD {r : Value} {Q : Value → Shared → Prop} (I : Inv X pins σ H s) (e : H a = some (.dK kvs)) (ry : RelV (kV k) u) (l : valV kvs k = none) (h : ∀ s', Inv X pins σ H s' → Q r s') :
    wpAny (model X.prog X.w) A (call (.builtin "dict.pop") [.ref a, u, r]) Q E s := by
  obtain ⟨z, hd, vs, rel, dd⟩ := dk_of I.hok e
  have hn : valueAt vs k = none := RelO.none_of (by rw [← l]; exact rel.val k)
  have hp : (keyPart u).isSome = true := by
    cases k with
    | inl i => obtain ⟨t, q⟩ := (show ∃ t, u = Value.int i t from ry); subst q; rfl
    | inr x => obtain ⟨t, q⟩ := (show ∃ t, u = Value.str x t from ry); subst q; rfl
  exact call_meetsIn PySem.F.slot_dict_pop dd.typeIs PySem.F.entry_dict_pop (PySem.F.args_dict_pop_3 _ _ _) (meets_dict_pop_default (mixKind X.prog X.w) a (kV_is ry) hd hp r) ⟨vs, dd, hn, h _ (I.tok _)⟩
theorem d_clear {Q : Value → Shared → Prop} (I : Inv X pins σ H s) (e : H a = some (.dK kvs)) (h : ∀ s', Inv X pins σ (upd H a (.dK [])) s' → Q .none s') : wpAny (model X.prog X.w) A (call (.builtin "dict.clear") [.ref a]) Q E s := by
  obtain ⟨z, hd, vs, rel, dd⟩ := dk_of I.hok e
  refine call_meetsIn PySem.F.slot_dict_clear dd.typeIs PySem.F.entry_dict_clear (PySem.F.args_dict_clear_1 _) (meets_dict_clear (mixKind X.prog X.w) a) ⟨vs, dd, by rw [← rel.length]; exact z, fun h' dd' hs => h _ ?_⟩
  have he : ∃ q, h'.get? a = some q := let ⟨q, _, _, hq, _⟩ := dd'; ⟨q, hq⟩
  exact d_write (t' := s.toks) I (by rw [e]; exact True.intro) hs he (dk_new (Nat.zero_le _) hd .nil dd')
theorem d_len {Q : Value → Shared → Prop} (I : Inv X pins σ H s) (e : Rd H a (.dK kvs)) (h : ∀ t s', Inv X pins σ H s' → Q (.int kvs.length t) s') : wpAny (model X.prog X.w) A (call (.builtin "len") [.ref a]) Q E s := by
  obtain ⟨z, hd, vs, rel, dd⟩ := dk_rd I.hok e
  refine call_len_dict hd dd (by rw [← rel.length]; rw [sizeLine_eq] at z; omega) ?_
  rw [← rel.length]
  exact h _ _ (I.tok _)
theorem d_truth {Q : Bool → Shared → Prop} (I : Inv X pins σ H s) (e : Rd H a (.dK kvs)) (h : ∀ s', Inv X pins σ H s' → Q (!kvs.isEmpty) s') : wpAny (model X.prog X.w) A (truthy (.ref a)) Q E s := by
  obtain ⟨z, hd, vs, rel, dd⟩ := dk_rd I.hok e
  refine wpAny_truthy_dict hd dd (by rw [← rel.length]; rw [sizeLine_eq] at z; omega) ?_
  have q : kvs.isEmpty = vs.isEmpty := by cases rel <;> rfl
  rw [← q]
  exact h _ (I.tok _)
end


def NoSl (i : Expr) : Prop := ∀ ov iv, subscripted i false ov iv = operate [ov, iv] (getItem ov iv)
theorem subD_of {prog : Program} {w : World} {A : Around} {E : Value → Shared → Prop} {s : Shared} {env : Env} {value slice : Expr} {pos : Pos} {T id : String} {Q : Value → Shared → Prop}
    (hl : typeLookup (.type T) "__getitem__" = pure (some (.builtin id))) (hs : NoSl slice)
    (h : wpAny (model prog w) A (eval value env) (fun o s₁ => wpAny (model prog w) A (eval slice env) (fun i s₂ => s₂.TypeIs o T ∧ wpAny (model prog w) A (getItem o i) Q E s₂) E s₁) E s) :
    wpAny (model prog w) A (eval (.Subscript value slice pos) env) Q E s := by
  refine Subscript_ (wpAny_mono h (fun o s₁ h₁ => wpAny_mono h₁ (fun i s₂ h₂ => ?_) fun _ _ x => x) fun _ _ x => x)
  obtain ⟨hT, h₂⟩ := h₂
  unfold subscriptTail
  refine wpAny_bind ?_
  rw [getitemInPython_of_ne hT.not_modules]
  refine wpAny_bind (wpAny_specialOf hT hl ?_)
  have fin : wpAny (model prog w) A (subscripted slice false o i) (fun r s₃ => wpAny (model prog w) A (letTemporaryGo value o r >>= fun _ => pure r) Q E s₃) E s₂ := by
    rw [hs o i]
    exact wpAny_operating (wpAny_mono h₂ (fun r s₃ h₃ => wpAny_bind (wpAny_letTemporaryGo (wpAny_pure h₃))) fun _ _ x => x)
  first
    | exact wpAny_pure (wpAny_bind fin)
    | exact wpAny_bind (wpAny_pure (wpAny_bind fin))
    | exact wpAny_bind fin

theorem dict_typeIs {X : Cx} {pins : List (Addr × Obj)} {σ : St} {H : Hp} {s : Shared} {a : Addr} {y : V} {o : Option V} (I : Inv X pins σ H s) (g : DGet H a y o) : s.TypeIs (.ref a) "dict" := by
  rcases g with ⟨kvs, k, e, _, _⟩ | ⟨kvs, k, b, e, _, _, _⟩
  · obtain ⟨_, _, vs, _, dd⟩ := dk_rd I.hok e
    exact dd.typeIs
  · obtain ⟨_, _, xs, _, dd⟩ := dt_rd I.hok e
    exact dd.typeIs
theorem dict_noDict {X : Cx} {pins : List (Addr × Obj)} {σ : St} {H : Hp} {s : Shared} {a : Addr} {y : V} {o : Option V} (I : Inv X pins σ H s) (g : DGet H a y o) :
    ∀ b, Value.ref a = .ref b → ∃ ob, s.heap.get? b = some ob ∧ ob.dict = none := fun b q => by
  cases q
  rcases g with ⟨kvs, k, e, _, _⟩ | ⟨kvs, k, b, e, _, _, _⟩
  · obtain ⟨_, _, vs, _, ob, _, _, h1, h2, _⟩ := dk_rd I.hok e
    exact ⟨ob, h1, h2.2.1⟩
  · obtain ⟨_, _, xs, _, ob, _, _, h1, h2, _⟩ := dt_rd I.hok e
    exact ⟨ob, h1, h2.2.1⟩

def tDGet (td ty : TE) : TE := fun σ H Q => td σ H fun x H1 => ty σ H1 fun y H2 => ∃ a v, x = .ref a ∧ DGet H2 a y (some v) ∧ Q v H2
def tDIn (ty td : TE) : TE := fun σ H Q => ty σ H fun y H1 => td σ H1 fun x H2 => ∃ a o, x = .ref a ∧ DGet H2 a y o ∧ Q (.bl o.isSome) H2
def tDNotIn (ty td : TE) : TE := fun σ H Q => ty σ H fun y H1 => td σ H1 fun x H2 => ∃ a o, x = .ref a ∧ DGet H2 a y o ∧ Q (.bl (!o.isSome)) H2
def sDPut (td ty tv : TE) : TS := fun D σ H => tv σ H fun v H1 => td σ H1 fun x H2 => ty σ H2 fun y H3 => ∃ a H4, x = .ref a ∧ DPut H3 a y v H4 ∧ D.nx σ H4
def sDAug (td ty tv : TE) (rd : V → V → Hp → VK → Prop) : TS := fun D σ H => td σ H fun x H1 => ty σ H1 fun y H2 => ∃ a v, x = .ref a ∧ DGet H2 a y (some v) ∧
  tv σ H2 fun y2 H3 => rd v y2 H3 fun z H4 => ∃ H5, DPut H4 a y z H5 ∧ D.nx σ H5
def sDDel (td ty : TE) : TS := fun D σ H => td σ H fun x H1 => ty σ H1 fun y H2 => ∃ a kvs k, x = .ref a ∧ H2 a = some (.dK kvs) ∧ y = kV k ∧ (valV kvs k).isSome = true ∧ D.nx σ (upd H2 a (.dK (dropK kvs k)))

section
variable {X : Cx} {o i e value : Expr} {pos pos' tpos : Pos} {td ty tv : TE}
theorem pe_dget (hu : X.A.units + 1 < cLine) (ho : PE X o td) (hi : PE X i ty) (hs : NoSl i) : PE X (.Subscript o i pos) (tDGet td ty) := by
  intro pins s σ H Q I h
  refine subD_of PySem.F.slot_dict_getitem.lookup hs (thn (ho pins s σ H _ I h) fun u s1 ⟨x, H1, I1, rx, q1⟩ => thn (hi pins s1 σ H1 _ I1 q1) fun iv s2 ⟨y, H2, I2, ry, a, v, ex, g, q2⟩ => ?_)
  subst ex
  obtain rfl : u = Value.ref a := rx
  exact ⟨dict_typeIs I2 g, d_getItem hu I2 g ry fun w' s3 I3 rw' => ⟨v, H2, I3, rw', q2⟩⟩
theorem pc_din (hu : X.A.units + 1 < cLine) (hi : PE X i ty) (ho : PE X o td) : PC X .In i o (tDIn ty td) := by
  intro pins s σ H Q I h
  refine thn (hi pins s σ H _ I h) fun iv s1 ⟨y, H1, I1, ry, q1⟩ => thn (ho pins s1 σ H1 _ I1 q1) fun u s2 ⟨x, H2, I2, rx, a, ov, ex, g, q2⟩ => ?_
  subst ex
  obtain rfl : u = Value.ref a := rx
  exact d_in hu I2 g ry fun s3 I3 => ⟨.bl ov.isSome, H2, I3, rfl, q2⟩
theorem pc_dnotin (hu : X.A.units + 1 < cLine) (hi : PE X i ty) (ho : PE X o td) : PC X .NotIn i o (tDNotIn ty td) := by
  intro pins s σ H Q I h
  refine thn (hi pins s σ H _ I h) fun iv s1 ⟨y, H1, I1, ry, q1⟩ => thn (ho pins s1 σ H1 _ I1 q1) fun u s2 ⟨x, H2, I2, rx, a, ov, ex, g, q2⟩ => ?_
  subst ex
  obtain rfl : u = Value.ref a := rx
  exact d_notIn hu I2 g ry fun s3 I3 => ⟨.bl (!ov.isSome), H2, I3, rfl, q2⟩
theorem ps_dput (hu : X.A.units + 1 < cLine) (ho : PE X o td) (hi : PE X i ty) (hv : PE X value tv) (hs : swapsWith value (some (.Subscript o i pos')) pos.line X.env = pure false) :
    PS X (.Assign [.Subscript o i pos'] value pos) (sDPut td ty tv) := by
  intro pins s σ H D I h
  refine wpAny_Assign_Subscript (thn (hv pins s σ H _ I h) fun r s1 ⟨v, H1, I1, rv, q1⟩ => thn (ho pins s1 σ H1 _ I1 q1) fun u s2 ⟨x, H2, I2, rx, q2⟩ => thn (hi pins s2 σ H2 _ I2 q2) fun iv s3 ⟨y, H3, I3, ry, a, H4, ex, g, q3⟩ => ?_) hs
  subst ex
  obtain rfl : u = Value.ref a := rx
  exact d_setItem hu I3 g ry rv fun s4 I4 => ⟨σ, H4, I4, q3⟩
theorem ps_daug {op : Operator} {rd : V → V → Hp → VK → Prop} (hu : X.A.units + 1 < cLine) (ho : PE X o td) (hi : PE X i ty) (hv : PE X value tv) (hop : InOp X op rd)
    (ha : ∀ ov iv new, augStore i ov iv new = (do holding [new, ov, iv] (setItem ov iv new); release [new, ov, iv] []; pure .next)) : PS X (.AugAssign (.Subscript o i tpos) op value pos) (sDAug td ty tv rd) := by
  intro pins s σ H D I h
  refine wpAny_AugAssign_SubscriptAny (thn (ho pins s σ H _ I h) fun u s1 ⟨x, H1, I1, rx, q1⟩ => thn (hi pins s1 σ H1 _ I1 q1) fun iv s2 ⟨y, H2, I2, ry, a, v, ex, g, q2⟩ => ?_) ha
  subst ex
  obtain rfl : u = Value.ref a := rx
  refine d_getItem hu I2 g ry fun w' s3 I3 rw' => thn (hv pins s3 σ H2 _ I3 q2) fun w2 s4 ⟨y2, H3, I4, ry2, q3⟩ => thn (hop pins s4 σ H3 v y2 w' w2 _ I4 rw' ry2 q3) fun w3 s5 ⟨z, H4, I5, rz, H5, g5, q4⟩ => ?_
  exact d_setItem hu I5 g5 ry rz fun s6 I6 => ⟨σ, H5, I6, q4⟩
theorem ps_ddel (ho : PE X o td) (hi : PE X i ty) : PS X (.Delete [.Subscript o i tpos] pos) (sDDel td ty) := by
  intro pins s σ H D I h
  refine wpAny_Delete (wpAny_deleteEach_cons (wpAny_delete_Subscript (thn (ho pins s σ H _ I h) fun u s1 ⟨x, H1, I1, rx, q1⟩ => thn (hi pins s1 σ H1 _ I1 q1) fun iv s2 ⟨y, H2, I2, ry, a, kvs, k, ex, e, ey, l, q2⟩ => ?_)))
  subst ex ey
  obtain rfl : u = Value.ref a := rx
  exact d_delItem I2 e ry l fun s3 I3 => wpAny_deleteEach_nil ⟨σ, _, I3, q2⟩
end


theorem dt_empty {P : Program} {w : World} {H : Hp} (h : Heap) (hb : sysModules < h.objs.size) : ObjOk P w H (h.push { cls := .type "dict", data := .dict #[] }) h.objs.size (.dT []) :=
  ⟨Nat.zero_le _, beq_eq_false_iff_ne.mpr (Ne.symm (Nat.ne_of_lt hb)), [], .nil, _, #[], 0, Heap.get?_push_size _ rfl, ⟨rfl, rfl, rfl⟩, rfl, rfl, List.nodup_nil⟩
def tDNewT : TE := fun _ H Q => ∀ p, H p = none → Q (.ref p) (upd H p (.dT []))
section
variable {X : Cx} {pos : Pos}
theorem pe_dnewT : PE X (.Dict [] [] pos) tDNewT := fun pins s σ H Q I h =>
  wpAny_Dict_empty ⟨.ref s.heap.objs.size, _, I.laid (a := s.heap.objs.size) (o := .dT []) (t' := s.toks) (fun _ _ q => Heap.get?_push_of_some _ q) (Nat.le_refl _) (dt_empty s.heap I.big), rfl, h _ (I.hok.fresh (Nat.le_refl _))⟩
end

def tPairs : List (TE × TE) → St → Hp → (List (V × V) → Hp → Prop) → Prop
  | [], _, H, Q => Q [] H
  | (tk, tv) :: r, σ, H, Q => tk σ H fun x H1 => tv σ H1 fun y H2 => tPairs r σ H2 fun ps H3 => Q ((x, y) :: ps) H3
abbrev VV : List (V × V) → List (Value × Value) → Prop := Paired fun p q => RelV p.1 q.1 ∧ RelV p.2 q.2
def PPs (X : Cx) (pos : Pos) (keys : List (Option Expr)) (values : List Expr) (trs : List (TE × TE)) : Prop :=
  ∀ (pins : List (Addr × Obj)) (s : Shared) (σ : St) (H : Hp) (Q : List (V × V) → Hp → Prop), Inv X pins σ H s → tPairs trs σ H Q →
    wpAny (model X.prog X.w) X.A (evalPairs (pairTrees keys values X.env pos)) (fun vs s' => ∃ ps H', Inv X pins σ H' s' ∧ VV ps vs ∧ Q ps H') X.xe s
theorem pps_nil {X : Cx} {pos : Pos} : PPs X pos [] [] [] := fun pins s σ H Q I h => pairTrees_nil_walk ⟨[], H, I, .nil, h⟩
theorem pps_cons {X : Cx} {pos : Pos} {k v : Expr} {ks : List (Option Expr)} {vs : List Expr} {tk tv : TE} {trs : List (TE × TE)} (hk : PE X k tk) (hv : PE X v tv) (hr : PPs X pos ks vs trs) :
    PPs X pos (some k :: ks) (v :: vs) ((tk, tv) :: trs) := fun pins s σ H Q I h =>
  pairTrees_cons_walk (thn (hk pins s σ H _ I h) fun u s1 ⟨x, H1, I1, rx, q1⟩ => thn (hv pins s1 σ H1 _ I1 q1) fun w2 s2 ⟨y, H2, I2, ry, q2⟩ =>
    thn (hr pins s2 σ H2 _ I2 q2) fun ws s3 ⟨ps, H3, I3, rel, q3⟩ => ⟨(x, y) :: ps, H3, I3, .cons ⟨rx, ry⟩ rel, q3⟩)

def mergeK (kvs more : List (Key × V)) : List (Key × V) := more.foldl (fun acc kv => putK acc kv.1 kv.2) kvs
theorem KV.merge : ∀ {more : List (Key × V)} {rs : List (Key × Value)} {kvs : List (Key × V)} {vs : List (Key × Value)}, KV more rs → KV kvs vs → KV (mergeK kvs more) (merged vs rs) := by
  intro more rs kvs vs r
  unfold KV at r
  induction r generalizing kvs vs with
  | nil => intro q; exact q
  | @cons p q ps qs h t ih =>
    intro r0
    have e : KV (putK kvs p.1 p.2) (stored vs q.1 q.2) := by
      have := r0.put p.1 h.2
      rw [← h.1]; exact this
    exact ih e
theorem length_mergeK : ∀ (more kvs : List (Key × V)), (mergeK kvs more).length ≤ kvs.length + more.length
  | [], kvs => by show kvs.length ≤ kvs.length + 0; omega
  | p :: r, kvs => by
    have h1 := length_mergeK r (putK kvs p.1 p.2)
    have h2 := length_putK kvs p.1 p.2
    show (mergeK (putK kvs p.1 p.2) r).length ≤ _
    rw [List.length_cons]; omega
theorem carries_of {P : Program} {w : World} : ∀ {kvs : List (Key × V)} {ws : List (Value × Value)}, VV (kvs.map fun kv => (kV kv.1, kv.2)) ws → ∃ rs, Carries (mixKind P w) ws rs ∧ KV kvs rs
  | [], _, r => by rw [List.map_nil] at r; cases r; exact ⟨[], True.intro, .nil⟩
  | p :: kvs, _, r => by
    rw [List.map_cons] at r
    cases r with
    | @cons a b as bs h t =>
      obtain ⟨rs, c, q⟩ := carries_of (P := P) (w := w) t
      obtain ⟨b1, b2⟩ := b
      exact ⟨(p.1, b2) :: rs, ⟨kV_is h.1, rfl, c⟩, .cons ⟨rfl, h.2⟩ q⟩
def tDisp (trs : List (TE × TE)) : TE := fun σ H Q => ∀ p, H p = none → tPairs trs σ (upd H p (.dK [])) fun ps H2 => H2 p = some (.dK []) ∧ ∃ kvs : List (Key × V), ps = kvs.map (fun kv => (kV kv.1, kv.2)) ∧ kvs.length ≤ 15 ∧ Q (.ref p) (upd H2 p (.dK (mergeK [] kvs)))
theorem pe_disp {X : Cx} {pos : Pos} {keys : List (Option Expr)} {values : List Expr} {trs : List (TE × TE)} (h : PPs X pos keys values trs) (hall : keys.all (·.isSome) = true) (hl : keys.length = values.length) (h0 : keys ≠ [])
    (h15 : keys.length ≤ 15) : PE X (.Dict keys values pos) (tDisp trs) := by
  intro pins s σ H Q I q
  have hn := I.hok.fresh (Nat.le_refl s.heap.objs.size)
  have I1 := I.laid (a := s.heap.objs.size) (o := .dK []) (h' := s.heap.push { cls := .type "dict", data := .dict #[] }) (t' := s.toks) (fun _ _ q => Heap.get?_push_of_some _ q) (Nat.le_refl _) (dk_empty s.heap I.big)
  refine wpAny_Dict_walk (knd := mixKind X.prog X.w) hall hl h0 h15 (thn (h pins _ σ _ _ I1 (q _ hn)) fun ws s2 ⟨ps, H2, I2, rel, e, kvs, ep, lk, q2⟩ => ?_)
  subst ep
  obtain ⟨rs, c, rk⟩ := carries_of (P := X.prog) (w := X.w) rel
  obtain ⟨z, hd, vs0, r0, dd⟩ := dk_of I2.hok e
  cases r0
  refine ⟨rs, c, dd, fun h' dd' hs => ⟨.ref s.heap.objs.size, _, ?_, rfl, q2⟩⟩
  have hz : (mergeK [] kvs).length ≤ sizeLine := by
    have h1 := length_mergeK kvs []
    rw [List.length_nil] at h1
    rw [sizeLine_eq]; omega
  have he : ∃ q, h'.get? s.heap.objs.size = some q := let ⟨q, _, _, hq, _⟩ := dd'; ⟨q, hq⟩
  exact d_write I2 (by rw [e]; exact True.intro) hs he (dk_new hz hd (rk.merge .nil) dd')


structure M1 (X : Cx) (o : Expr) (m : Str) (apos : Pos) (e : Expr) (cpos : Pos) : Prop where
  base : attributeBase o m X.env (eval o X.env) = eval o X.env
  few : ((backTo cpos (starEach [e] X.env)).all (fun x => !x.1) && (backToKw cpos (keywordEach [] X.env)).all (fun x => x.1.isSome)
    && decide (([e] : List Expr).length + ([] : List Keyword).length + (if ([] : List Keyword).isEmpty then 0 else 1) < 30)) = true
  line : (apos.endLine == cpos.line) = true
  trees : backTo cpos (starEach [e] X.env) = [(false, eval e X.env)]
structure M2 (X : Cx) (o : Expr) (m : Str) (apos : Pos) (e f : Expr) (cpos : Pos) : Prop where
  base : attributeBase o m X.env (eval o X.env) = eval o X.env
  few : ((backTo cpos (starEach [e, f] X.env)).all (fun x => !x.1) && (backToKw cpos (keywordEach [] X.env)).all (fun x => x.1.isSome)
    && decide (([e, f] : List Expr).length + ([] : List Keyword).length + (if ([] : List Keyword).isEmpty then 0 else 1) < 30)) = true
  line : (apos.endLine == cpos.line) = true
  trees : backTo cpos (starEach [e, f] X.env) = [(false, eval e X.env), (false, eval f X.env)]

def IsD (H : Hp) (a : Addr) : Prop := (∃ kvs, Rd H a (.dK kvs)) ∨ ∃ kvs, Rd H a (.dT kvs)
theorem isD_at {X : Cx} {pins : List (Addr × Obj)} {σ : St} {H : Hp} {s : Shared} {a : Addr} (I : Inv X pins σ H s) (d : IsD H a) :
    s.TypeIs (.ref a) "dict" ∧ (∀ b, Value.ref a = .ref b → ∃ ob, s.heap.get? b = some ob ∧ ob.dict = none) ∧ (a == sysModules) = false := by
  rcases d with ⟨kvs, e⟩ | ⟨kvs, e⟩
  · obtain ⟨_, hd, vs, _, dd⟩ := dk_rd I.hok e
    refine ⟨dd.typeIs, fun b q => ?_, hd⟩
    cases q
    obtain ⟨ob, _, _, h1, h2, _⟩ := dd
    exact ⟨ob, h1, h2.2.1⟩
  · obtain ⟨_, hd, xs, _, dd⟩ := dt_rd I.hok e
    refine ⟨dd.typeIs, fun b q => ?_, hd⟩
    cases q
    obtain ⟨ob, _, _, h1, h2, _⟩ := dd
    exact ⟨ob, h1, h2.2.1⟩

section
variable {X : Cx} {pins : List (Addr × Obj)} {σ : St} {H : Hp} {s : Shared} {a : Addr} {y d : V} {u r : Value} {o : Option V} {A : Around} {E : Value → Shared → Prop}
theorem d_get1 {Q : Value → Shared → Prop} (hu : A.units + 1 < cLine) (I : Inv X pins σ H s) (g : DGet H a y o) (ry : RelV y u) (h : ∀ w' s', Inv X pins σ H s' → RelV (o.getD .non) w' → Q w' s') :
    wpAny (model X.prog X.w) A (call (.builtin "dict.get") [.ref a, u]) Q E s := by
  rcases g with ⟨kvs, k, e, ey, l⟩ | ⟨kvs, k, b, e, ey, eb, l⟩
  · subst ey
    obtain ⟨z, hd, vs, rel, dd⟩ := dk_rd I.hok e
    refine call_meetsIn PySem.F.slot_dict_get dd.typeIs PySem.F.entry_dict_get (PySem.F.args_dict_get_2 _ _) (meets_dict_get (mixKind X.prog X.w) a (kV_is ry) hd) ⟨_, dd.mapOf, h _ _ (I.tok _) ?_⟩
    rw [l]
    exact (rel.val k).getD rfl
  · subst ey
    cases (show u = Value.ref b from ry)
    obtain ⟨z, hd, xs, rel, dd⟩ := dt_rd I.hok e
    refine call_meetsIn PySem.F.slot_dict_get dd.typeIs PySem.F.entry_dict_get (PySem.F.args_dict_get_2 _ _) (meetsH_dict_get (tupleKind (mixKind X.prog X.w)) a b hd) ⟨tupleKind_room_in1 hu, k, xs, key_of I.hok eb, dd, h _ _ (I.tok _) ?_⟩
    rw [l]
    exact (rel.val k).getD rfl
theorem d_get2 {Q : Value → Shared → Prop} (hu : A.units + 1 < cLine) (I : Inv X pins σ H s) (g : DGet H a y o) (ry : RelV y u) (rd : RelV d r) (h : ∀ w' s', Inv X pins σ H s' → RelV (o.getD d) w' → Q w' s') :
    wpAny (model X.prog X.w) A (call (.builtin "dict.get") [.ref a, u, r]) Q E s := by
  rcases g with ⟨kvs, k, e, ey, l⟩ | ⟨kvs, k, b, e, ey, eb, l⟩
  · subst ey
    obtain ⟨z, hd, vs, rel, dd⟩ := dk_rd I.hok e
    refine call_meetsIn PySem.F.slot_dict_get dd.typeIs PySem.F.entry_dict_get (PySem.F.args_dict_get_3 _ _ _) (meets_dict_get_default (mixKind X.prog X.w) a (kV_is ry) hd r) ⟨_, dd.mapOf, h _ _ (I.tok _) ?_⟩
    rw [l]
    exact (rel.val k).getD rd
  · subst ey
    cases (show u = Value.ref b from ry)
    obtain ⟨z, hd, xs, rel, dd⟩ := dt_rd I.hok e
    refine call_meetsIn PySem.F.slot_dict_get dd.typeIs PySem.F.entry_dict_get (PySem.F.args_dict_get_3 _ _ _) (meetsH_dict_get_default (tupleKind (mixKind X.prog X.w)) a b hd r) ⟨tupleKind_room_in1 hu, k, xs, key_of I.hok eb, dd, h _ _ (I.tok _) ?_⟩
    rw [l]
    exact (rel.val k).getD rd
end

def tDGet1 (td ty : TE) : TE := fun σ H Q => td σ H fun x H1 => ∃ a, x = .ref a ∧ IsD H1 a ∧ ty σ H1 fun y H2 => ∃ o, DGet H2 a y o ∧ Q (o.getD .non) H2
def tDGet2 (td ty tx : TE) : TE := fun σ H Q => td σ H fun x H1 => ∃ a, x = .ref a ∧ IsD H1 a ∧ ty σ H1 fun y H2 => tx σ H2 fun z H3 => ∃ o, DGet H3 a y o ∧ Q (o.getD z) H3
def tDPop1 (td ty : TE) : TE := fun σ H Q => td σ H fun x H1 => ∃ a, x = .ref a ∧ IsD H1 a ∧ ty σ H1 fun y H2 => ∃ kvs k v, H2 a = some (.dK kvs) ∧ y = kV k ∧ valV kvs k = some v ∧ Q v (upd H2 a (.dK (dropK kvs k)))
def tDPop2 (td ty tx : TE) : TE := fun σ H Q => td σ H fun x H1 => ∃ a, x = .ref a ∧ IsD H1 a ∧ ty σ H1 fun y H2 => tx σ H2 fun z H3 => ∃ kvs k, H3 a = some (.dK kvs) ∧ y = kV k ∧
  (∀ v, valV kvs k = some v → Q v (upd H3 a (.dK (dropK kvs k)))) ∧ (valV kvs k = none → Q z H3)
section
variable {X : Cx} {o e f : Expr} {apos cpos : Pos} {td ty tx : TE}
theorem pe_dget1 (hu : X.A.units + 1 < cLine) (ho : PE X o td) (he : PE X e ty) (m : M1 X o "get" apos e cpos) : PE X (.Call (.Attribute o "get" apos) [e] [] cpos) (tDGet1 td ty) := by
  intro pins s σ H Q I h
  refine wpAny_Call_method m.base m.few m.line PySem.F.plainAttrs_dict PySem.F.slot_dict_get PySem.F.type_dict_get (thn (ho pins s σ H _ I h) fun u s1 ⟨x, H1, I1, rx, a, ex, d, q1⟩ => ?_)
  subst ex
  obtain rfl : u = Value.ref a := rx
  obtain ⟨t1, t2, _⟩ := isD_at I1 d
  refine ⟨t1, t2, ?_⟩
  rw [m.trees]
  refine Calls.callWith_builtin rfl (Calls.evalArgs_plain (Calls.spliced_cons (thn (he pins s1 σ H1 _ I1 q1) fun iv s2 ⟨y, H2, I2, ry, ov, g, q2⟩ => Calls.spliced_nil ?_)))
  exact d_get1 hu I2 g ry fun w' s3 I3 rw' => ⟨_, H2, I3, rw', q2⟩
theorem pe_dget2 (hu : X.A.units + 1 < cLine) (ho : PE X o td) (he : PE X e ty) (hf : PE X f tx) (m : M2 X o "get" apos e f cpos) : PE X (.Call (.Attribute o "get" apos) [e, f] [] cpos) (tDGet2 td ty tx) := by
  intro pins s σ H Q I h
  refine wpAny_Call_method m.base m.few m.line PySem.F.plainAttrs_dict PySem.F.slot_dict_get PySem.F.type_dict_get (thn (ho pins s σ H _ I h) fun u s1 ⟨x, H1, I1, rx, a, ex, d, q1⟩ => ?_)
  subst ex
  obtain rfl : u = Value.ref a := rx
  obtain ⟨t1, t2, _⟩ := isD_at I1 d
  refine ⟨t1, t2, ?_⟩
  rw [m.trees]
  refine Calls.callWith_builtin rfl (Calls.evalArgs_plain (Calls.spliced_cons (thn (he pins s1 σ H1 _ I1 q1) fun iv s2 ⟨y, H2, I2, ry, q2⟩ =>
    Calls.spliced_cons (thn (hf pins s2 σ H2 _ I2 q2) fun fv s3 ⟨z, H3, I3, rz, ov, g, q3⟩ => Calls.spliced_nil ?_))))
  exact d_get2 hu I3 g ry rz fun w' s4 I4 rw' => ⟨_, H3, I4, rw', q3⟩
theorem pe_dpop1 (ho : PE X o td) (he : PE X e ty) (m : M1 X o "pop" apos e cpos) : PE X (.Call (.Attribute o "pop" apos) [e] [] cpos) (tDPop1 td ty) := by
  intro pins s σ H Q I h
  refine wpAny_Call_method m.base m.few m.line PySem.F.plainAttrs_dict PySem.F.slot_dict_pop PySem.F.type_dict_pop (thn (ho pins s σ H _ I h) fun u s1 ⟨x, H1, I1, rx, a, ex, d, q1⟩ => ?_)
  subst ex
  obtain rfl : u = Value.ref a := rx
  obtain ⟨t1, t2, _⟩ := isD_at I1 d
  refine ⟨t1, t2, ?_⟩
  rw [m.trees]
  refine Calls.callWith_builtin rfl (Calls.evalArgs_plain (Calls.spliced_cons (thn (he pins s1 σ H1 _ I1 q1) fun iv s2 ⟨y, H2, I2, ry, kvs, k, v, ea, ey, l, q2⟩ => Calls.spliced_nil ?_)))
  subst ey
  exact d_pop I2 ea ry l (.inl rfl) fun w' s3 I3 rw' => ⟨v, _, I3, rw', q2⟩
theorem pe_dpop2 (ho : PE X o td) (he : PE X e ty) (hf : PE X f tx) (m : M2 X o "pop" apos e f cpos) : PE X (.Call (.Attribute o "pop" apos) [e, f] [] cpos) (tDPop2 td ty tx) := by
  intro pins s σ H Q I h
  refine wpAny_Call_method m.base m.few m.line PySem.F.plainAttrs_dict PySem.F.slot_dict_pop PySem.F.type_dict_pop (thn (ho pins s σ H _ I h) fun u s1 ⟨x, H1, I1, rx, a, ex, d, q1⟩ => ?_)
  subst ex
  obtain rfl : u = Value.ref a := rx
  obtain ⟨t1, t2, _⟩ := isD_at I1 d
  refine ⟨t1, t2, ?_⟩
  rw [m.trees]
  refine Calls.callWith_builtin rfl (Calls.evalArgs_plain (Calls.spliced_cons (thn (he pins s1 σ H1 _ I1 q1) fun iv s2 ⟨y, H2, I2, ry, q2⟩ =>
    Calls.spliced_cons (thn (hf pins s2 σ H2 _ I2 q2) fun fv s3 ⟨z, H3, I3, rz, kvs, k, ea, ey, q3, q4⟩ => Calls.spliced_nil ?_))))
  subst ey
  cases l : valV kvs k with
  | some v => exact d_pop I3 ea ry l (.inr ⟨fv, rfl⟩) fun w' s4 I4 rw' => ⟨v, _, I4, rw', q3 v l⟩
  | none => exact d_popD I3 ea ry l fun s4 I4 => ⟨z, H3, I4, rz, q4 l⟩
end

section
variable {X : Cx} {pins : List (Addr × Obj)} {σ : St} {H : Hp} {s : Shared} {a : Addr} {kvs : List (Key × V)} {A : Around} {E : Value → Shared → Prop}
theorem d_copyOf {Q : Value → Shared → Prop} (I : Inv X pins σ H s) (e : Rd H a (.dK kvs)) (h : ∀ p s', H p = none → Inv X pins σ (upd H p (.dK kvs)) s' → Q (.ref p) s') : wpAny (model X.prog X.w) A (call (.type "dict") [.ref a]) Q E s := by
  obtain ⟨z, hd, vs, rel, dd⟩ := dk_rd I.hok e
  refine kt_call_dict hd dd (by rw [← rel.length]; exact z) fun h' dd' hs => ?_
  refine h _ _ (I.hok.fresh (Nat.le_refl _)) (I.laid (a := s.heap.objs.size) (o := .dK kvs) (t' := s.toks) (fun b q hq => ?_) (Nat.le_refl _) (dk_new z (beq_eq_false_iff_ne.mpr (Ne.symm (Nat.ne_of_lt I.big))) rel dd'))
  exact (hs.2 b (Nat.ne_of_lt (Heap.lt_size hq))).trans (Heap.get?_push_of_some _ hq)
end


section
variable {X : Cx} {pins : List (Addr × Obj)} {σ : St} {H : Hp} {s : Shared} {a : Addr} {y : V} {u : Value} {A : Around} {E : Value → Shared → Prop}
theorem d_missing {Q : Value → Shared → Prop} (hu : A.units + 1 < cLine) (hh : A.handled = none) (I : Inv X pins σ H s) (g : DGet H a y none) (ry : RelV y u)
    (h : ∀ h' e t', Heap.NewExc s.heap h' e "KeyError" → E (.ref e) { s with heap := h', toks := t' }) : wpAny (model X.prog X.w) A (getItem (.ref a) u) Q E s := by
  rcases g with ⟨kvs, k, e, ey, l⟩ | ⟨kvs, k, b, e, ey, eb, l⟩
  · subst ey
    obtain ⟨z, hd, vs, rel, dd⟩ := dk_rd I.hok e
    have hn : valueAt vs k = none := RelO.none_of (by rw [l]; exact rel.val k)
    exact wpAny_getItem_missing_of (kV_is ry) hd hh dd.mapOf hn fun h' ex ne => h h' ex _ ne
  · subst ey
    cases (show u = Value.ref b from ry)
    obtain ⟨z, hd, xs, rel, dd⟩ := dt_rd I.hok e
    have hn : (atKey xs k).map (·.2) = none := RelO.none_of (by rw [l]; exact rel.val k)
    exact wpAny_getItem_missing_heap (tupleKind_room_in1 hu) (key_of I.hok eb) hd hh dd (Option.map_eq_none_iff.mp hn) fun h' ex ne => h h' ex _ ne
end
section
variable {X : Cx}
theorem call_lenD : CallR X (.builtin "len") (fun xs H Q => ∃ a kvs, xs = [V.ref a] ∧ H a = some (.dK kvs) ∧ Q (.int kvs.length) H) := by
  intro pins s σ H xs us Q I r h
  obtain ⟨a, kvs, rfl, ha, q⟩ := h
  obtain ⟨u, rfl, ru⟩ := vals1 r
  cases ru
  exact d_len I (.inl ha) fun t s' I' => ⟨.int kvs.length, H, I', ⟨t, rfl⟩, q⟩
end
section
variable {κ : Type} [DecidableEq κ]
theorem valV_not {kvs : List (κ × V)} {k : κ} (h : valV kvs k = none) : ¬ k ∈ kvs.map (·.1) := by
  intro m
  obtain ⟨p, hp, e⟩ := List.mem_map.mp m
  have q : (kvs.any fun kv => decide (kv.1 = k)) = true := List.any_eq_true.mpr ⟨p, hp, decide_eq_true e⟩
  rw [valV_any, h] at q
  exact absurd q (by simp)
theorem valV_in {kvs : List (κ × V)} {k : κ} {v : V} (h : valV kvs k = some v) : k ∈ kvs.map (·.1) := by
  have q : (kvs.any fun kv => decide (kv.1 = k)) = true := by
    rw [valV_any, h]
    all_goals rfl
  obtain ⟨p, hp, e⟩ := List.any_eq_true.mp q
  exact List.mem_map.mpr ⟨p, hp, of_decide_eq_true e⟩
theorem nd_snoc : ∀ {l : List κ} {k : κ}, l.Nodup → ¬ k ∈ l → (l ++ [k]).Nodup
  | [], k, _, _ => by simp
  | a :: r, k, h, hk => by
    obtain ⟨h1, h2⟩ := List.nodup_cons.mp h
    show (a :: (r ++ [k])).Nodup
    refine List.nodup_cons.mpr ⟨fun m => ?_, nd_snoc h2 fun m => hk (List.mem_cons.mpr (Or.inr m))⟩
    rcases List.mem_append.mp m with q | q
    · exact h1 q
    · exact hk (List.mem_cons.mpr (Or.inl (List.mem_singleton.mp q).symm))
theorem nd_putK {kvs : List (κ × V)} {k : κ} (v : V) (hn : (kvs.map (·.1)).Nodup) (h : valV kvs k = none) : ((putK kvs k v).map (·.1)).Nodup := by
  rw [putK_new v h, List.map_append]
  exact nd_snoc hn (valV_not h)
theorem dropK_pos {p : κ × V} {r : List (κ × V)} {k : κ} (e : p.1 = k) : dropK (p :: r) k = dropK r k := by
  unfold dropK
  rw [List.filter_cons, if_neg (by simp [e])]
theorem dropK_neg {p : κ × V} {r : List (κ × V)} {k : κ} (e : ¬ p.1 = k) : dropK (p :: r) k = p :: dropK r k := by
  unfold dropK
  rw [List.filter_cons, if_pos (by simp [e])]
theorem dropK_no : ∀ {kvs : List (κ × V)} {k : κ}, ¬ k ∈ kvs.map (·.1) → dropK kvs k = kvs
  | [], _, _ => rfl
  | p :: r, k, h => by
    have h' : ¬ k ∈ r.map (·.1) := fun m => by
      obtain ⟨q, hq, e⟩ := List.mem_map.mp m
      exact h (List.mem_map.mpr ⟨q, List.mem_cons.mpr (Or.inr hq), e⟩)
    rw [dropK_neg fun e => h (List.mem_map.mpr ⟨p, List.mem_cons.mpr (Or.inl rfl), e⟩), dropK_no h']
theorem dropK_mem {kvs : List (κ × V)} {k : κ} {p : κ × V} (h : p ∈ dropK kvs k) : p ∈ kvs := (List.mem_filter.mp h).1
theorem nd_dropK : ∀ {kvs : List (κ × V)} {k : κ}, (kvs.map (·.1)).Nodup → ((dropK kvs k).map (·.1)).Nodup
  | [], _, _ => List.nodup_nil
  | p :: r, k, h => by
    have h : (p.1 :: r.map (·.1)).Nodup := h
    obtain ⟨h1, h2⟩ := List.nodup_cons.mp h
    by_cases e : p.1 = k
    · rw [dropK_pos e]
      exact nd_dropK h2
    · rw [dropK_neg e]
      show (p.1 :: (dropK r k).map (·.1)).Nodup
      refine List.nodup_cons.mpr ⟨fun m => h1 ?_, nd_dropK h2⟩
      obtain ⟨q, hq, eq⟩ := List.mem_map.mp m
      exact List.mem_map.mpr ⟨q, dropK_mem hq, eq⟩
theorem dropK_len : ∀ {kvs : List (κ × V)} {k : κ}, (kvs.map (·.1)).Nodup → k ∈ kvs.map (·.1) → (dropK kvs k).length + 1 = kvs.length
  | [], _, _, m => by simp at m
  | p :: r, k, h, m => by
    have h : (p.1 :: r.map (·.1)).Nodup := h
    have m : k = p.1 ∨ k ∈ r.map (·.1) := List.mem_cons.mp m
    obtain ⟨h1, h2⟩ := List.nodup_cons.mp h
    by_cases e : p.1 = k
    · subst e
      rw [dropK_pos rfl, dropK_no h1]
      all_goals rfl
    · have m' : k ∈ r.map (·.1) := m.resolve_left fun z => e z.symm
      have q := dropK_len h2 m'
      rw [dropK_neg e, List.length_cons, List.length_cons]
      omega
end
end L2

namespace L2
open PySem PySem.Spec PyProof.Rows
section
variable {prog : Program} {w : World} {A : Around} {E : Value → Shared → Prop} {s : Shared}
def Coll (prog : Program) (w : World) (A : Around) (s : Shared) (r : Addr) (src : List Int) : Prop :=
  ∀ (E : Value → Shared → Prop) (R : List Value → Shared → Prop), (∀ h' tk d vs, (∀ b o, s.heap.get? b = some o → h'.get? b = some o) → IntsAre vs src → R vs { s with heap := h', toks := tk, drawn := d }) → wpAny (model prog w) A (collect (.ref r)) R E s
theorem coll_list {l : Addr} {vs : List Value} {ns : List Int} (hl : s.heap.IsList l vs.toArray) (hI : IntsAre vs ns) (hz : vs.length ≤ sizeLine) : Coll prog w A s l ns := fun E R h =>
  collect_list hl (h _ s.toks s.drawn vs (fun b o e => by
    have lt := Heap.lt_size e
    rw [Heap.get?_update_other _ _ (Ne.symm (Nat.ne_of_lt lt))]
    exact Heap.get?_push_of_some _ e) hI) hz
theorem ints_at : ∀ {vs : List Value} {ns : List Int}, vs.length = ns.length → (∀ (j : Nat) (v : Value), vs[j]? = some v → ∃ n t, ns[j]? = some n ∧ v = .int n t) → IntsAre vs ns
  | [], [], _, _ => .nil
  | [], _ :: _, h, _ => by cases h
  | _ :: _, [], h, _ => by cases h
  | v :: vs, n :: ns, h, k => by
    obtain ⟨m, t, e, rfl⟩ := k 0 v rfl
    cases e
    exact .cons n t (ints_at (Nat.succ.inj h) fun j v' e' => k (j + 1) v' e')
theorem coll_dict {d : Addr} {vs : List (Key × Value)} {ns : List Int} (hh : A.handled = none) (lo : (d == sysModules) = false) (hd : s.heap.DictOf (mixKind prog w) d vs) (hk : vs.map (·.1) = ns.map Sum.inl) (hz : vs.length ≤ sizeLine) : Coll prog w A s d ns := fun E R h => by
  obtain ⟨ep, hat⟩ := hd.dictAt
  refine PySem.W.kdu_collect (PySem.W.kdl_dict (knd := mixKind prog w) (kvs := vs) (ep := ep) lo) hh hat hz fun h' tk acc keep hacc => h h' tk s.drawn acc.toList keep (ints_at ?_ fun j v e => ?_)
  · rw [Array.length_toList, hacc.1]
    have := congrArg List.length hk
    simpa using this
  · obtain ⟨k, x, hx, hi⟩ := hacc.2 j v (by rw [← Array.getElem?_toList]; exact e)
    have e1 : (vs.map (·.1))[j]? = some k := by rw [List.getElem?_map, hx]; rfl
    rw [hk, List.getElem?_map] at e1
    cases q : ns[j]? with
    | none => rw [q] at e1; cases e1
    | some n =>
      rw [q] at e1
      have ek : Sum.inl n = k := Option.some.inj e1
      subst ek
      have hi' : Value.isInt n v = true := hi
      cases v with
      | int i t =>
        have : i = n := eq_of_beq hi'
        subst this
        exact ⟨i, t, rfl, rfl⟩
      | _ => cases hi'
theorem sorted_src {r : Addr} {src : List Int} {b : Bool} {Q : Value → Shared → Prop} (hc : Coll prog w A.in1 s r src) (h64 : src.length < 64)
    (h : ∀ (h1 h' : Heap) tk dr D vs' ns' e, (∀ b o, s.heap.get? b = some o → h1.get? b = some o) → (∀ b o, h1.get? b = some o → h'.get? b = some o) → h1.objs.size ≤ D → h'.get? D = some (seqObj "list" vs'.toArray e) → IntsAre vs' ns' → ns'.Perm src → Ordered b ns' → Q (.ref D) { s with heap := h', toks := tk, drawn := dr }) :
    wpAny (model prog w) A (call (.builtin "sorted") [.ref r] [(Str.ofString "reverse", .bool b)]) Q E s := by
  refine call_function_entry_kw kind_sorted plain_sorted entry_sorted (args_sorted_rev _ _) ?_
  unfold Builtin.«sorted»
  refine wpAny_bind (m := checkCount "sorted" 1 1 _) (wpAny_pure ?_)
  refine wpAny_bind (hc _ _ fun h1 tk dr vs keep hI => ?_)
  have lv : vs.length < 64 := by rw [hI.length]; exact h64
  refine wpAny_bind (wpAny_newList ?_ (Nat.le_trans (Nat.le_of_lt lv) (by decide)))
  have hoL : (h1.push (seqObj "list" vs.toArray 0)).get? h1.objs.size = some (seqObj "list" vs.toArray 0) := Heap.get?_push_size _ rfl
  refine wpAny_bind (wpAny_holding (wpAny_call_entry_kw slot_list_sort ⟨_, hoL, rfl⟩ entry_list_sort (list_sort_tree_rev (s := { s with heap := h1.push (seqObj "list" vs.toArray 0), toks := tk, drawn := dr }) hoL hI lv fun out ns' a1 a2 a3 => ⟨_, rfl, ?_⟩) (args_list_sort_rev _ _)))
  obtain ⟨e, he⟩ := sortedHeap_at (out := out) hoL
  refine wpAny_pure ⟨_, rfl, h h1 _ tk dr h1.objs.size out.toList ns' e keep (fun b o q => ?_) (Nat.le_refl _) (by simpa using he) a1 a2 a3⟩
  have lt := Heap.lt_size q
  rw [sortedHeap_old (Nat.ne_of_lt lt) (by rw [size_push']; exact Nat.lt_succ_of_lt lt)]
  exact Heap.get?_push_of_some _ q
theorem sorted_src0 {r : Addr} {src : List Int} {Q : Value → Shared → Prop} (hc : Coll prog w A.in1 s r src) (h64 : src.length < 64)
    (h : ∀ (h1 h' : Heap) tk dr D vs' ns' e, (∀ b o, s.heap.get? b = some o → h1.get? b = some o) → (∀ b o, h1.get? b = some o → h'.get? b = some o) → h1.objs.size ≤ D → h'.get? D = some (seqObj "list" vs'.toArray e) → IntsAre vs' ns' → ns'.Perm src → ns'.Pairwise (· ≤ ·) → Q (.ref D) { s with heap := h', toks := tk, drawn := dr }) :
    wpAny (model prog w) A (call (.builtin "sorted") [.ref r]) Q E s := by
  refine Calls.call_function_entry kind_sorted plain_sorted entry_sorted (args_sorted1 _) ?_
  unfold Builtin.«sorted»
  refine wpAny_bind (m := checkCount "sorted" 1 1 _) (wpAny_pure ?_)
  refine wpAny_bind (hc _ _ fun h1 tk dr vs keep hI => ?_)
  have lv : vs.length < 64 := by rw [hI.length]; exact h64
  refine wpAny_bind (wpAny_newList ?_ (Nat.le_trans (Nat.le_of_lt lv) (by decide)))
  have hoL : (h1.push (seqObj "list" vs.toArray 0)).get? h1.objs.size = some (seqObj "list" vs.toArray 0) := Heap.get?_push_size _ rfl
  refine wpAny_bind (wpAny_holding (wpAny_call_entry slot_list_sort ⟨_, hoL, rfl⟩ entry_list_sort (list_sort_tree (s := { s with heap := h1.push (seqObj "list" vs.toArray 0), toks := tk, drawn := dr }) hoL hI lv fun out ns' a1 a2 a3 => ⟨_, rfl, ?_⟩) (args_list_sort _)))
  obtain ⟨e, he⟩ := sortedHeap_at (out := out) hoL
  refine wpAny_pure ⟨_, rfl, h h1 _ tk dr h1.objs.size out.toList ns' e keep (fun b o q => ?_) (Nat.le_refl _) (by simpa using he) a1 a2 a3⟩
  have lt := Heap.lt_size q
  rw [sortedHeap_old (Nat.ne_of_lt lt) (by rw [size_push']; exact Nat.lt_succ_of_lt lt)]
  exact Heap.get?_push_of_some _ q
end
section
variable {X : Cx}
def SrcI (K : PySem.W.Frag) (H : Hp) (r : Addr) (src : List Int) : Prop := SqL K H r (src.map V.int) ∨ ∃ kvs : List (Key × V), H r = some (.dK kvs) ∧ kvs.map (·.1) = src.map Sum.inl
theorem src_coll {pins : List (Addr × Obj)} {σ : St} {H : Hp} {s : Shared} {r : Addr} {src : List Int} {A : Around} (hh : A.handled = none) (I : Inv X pins σ H s) (h : SrcI X.K H r src) : Coll X.prog X.w A s r src := by
  rcases h with h | ⟨kvs, e, hk⟩
  · obtain ⟨its, vr, pl, hz⟩ := I.list h
    exact coll_list pl.isList (intsAre_of vr) (by rw [← vr.length]; exact hz)
  · obtain ⟨z, hd, vs, rel, dd⟩ := dk_of I.hok e
    exact coll_dict hh hd dd (by rw [← hk]; exact rel.keys.symm) (by rw [← rel.length]; exact z)
def rSort (K : PySem.W.Frag) : List V → Hp → VK → Prop := fun xs H Q => ∃ (a : Addr) (src : List Int), xs = [.ref a] ∧ SrcI K H a src ∧ src.length < 64 ∧ ∀ (ms : List Int) p, ms.Perm src → ms.Pairwise (· ≤ ·) → H p = none → Q (.ref p) (upd H p (.lst (ms.map V.int)))
def rSortR (K : PySem.W.Frag) : List V → List V → Hp → VK → Prop := fun xs ys H Q => ∃ (a : Addr) (src : List Int), xs = [.ref a] ∧ ys = [.bl true] ∧ SrcI K H a src ∧ src.length < 64 ∧ ∀ (ms : List Int) p, ms.Perm src → ms.Pairwise (· ≥ ·) → H p = none → Q (.ref p) (upd H p (.lst (ms.map V.int)))
theorem Inv.drew {pins : List (Addr × Obj)} {σ : St} {H : Hp} {s : Shared} (I : Inv X pins σ H s) (d : Drawn) : Inv X pins σ H { s with drawn := d } := ⟨I.ok, I.os, I.bare, I.base, I.loc, I.cell, I.free, I.freeC, I.pin, I.hok, I.len⟩
theorem sort_end {pins : List (Addr × Obj)} {σ : St} {H : Hp} {s : Shared} {h1 h' : Heap} {tk D e : Nat} {dr : Drawn} {vs' : List Value} {ns' : List Int} (I : Inv X pins σ H s) (k1 : ∀ b o, s.heap.get? b = some o → h1.get? b = some o) (k2 : ∀ b o, h1.get? b = some o → h'.get? b = some o) (hD : h1.objs.size ≤ D)
    (g : h'.get? D = some (seqObj "list" vs'.toArray e)) (ia : IntsAre vs' ns') (hl : ns'.length < 64) : H D = none ∧ Inv X pins σ (upd H D (.lst (ns'.map V.int))) { s with heap := h', toks := tk, drawn := dr } := by
  have I1 : Inv X pins σ H { s with heap := h1, toks := tk, drawn := dr } := (I.drew dr).kept k1
  exact ⟨I1.hok.fresh hD, I1.laid (t' := tk) k2 hD (show ObjOk X.prog X.w _ h' _ (.lst (ns'.map V.int)) from ⟨by rw [List.length_map]; exact Nat.le_trans (Nat.le_of_lt hl) (by decide), vs', e, vals_ints ia, g⟩)⟩
theorem call_sorted (hc : X.calm = true) : CallR X (.builtin "sorted") (rSort X.K) := by
  intro pins s σ H xs us Q I r h
  obtain ⟨a, src, rfl, hS, hl, q⟩ := h
  obtain ⟨u, rfl, rx⟩ := vals1 r
  cases rx
  refine sorted_src0 (src_coll (A := X.A.in1) (I.ok.hd hc) I hS) hl fun h1 h' tk dr D vs' ns' e k1 k2 hD g ia pm od => ?_
  obtain ⟨f, I'⟩ := sort_end (tk := tk) (dr := dr) I k1 k2 hD g ia (by rw [pm.length_eq]; exact hl)
  exact ⟨.ref D, _, I', rfl, q ns' D pm od f⟩
theorem psortR {e d : Expr} {p pos kpos : Pos} {te td : TE} (hm : X.mg "sorted" = none) (ha : PE X e te) (hd : PE X d td) (hc : X.calm = true := by rfl) (hg : Gl X "sorted" := by rfl)
    (he : starEach (e :: []) X.env = (false, eval e X.env) :: starEach [] X.env := by rfl) :
    PE X (.Call (.Name "sorted" p) [e] [⟨some "reverse", d, kpos⟩] pos) (tKw (rSortR X.K) (tCons te tNil) (tCons td tNil)) := by
  intro pins s σ H Q I h
  refine wpAny_Call_Name_kw (ld_blt I hg hm PyProof.Rows.boot_sorted ?_)
  refine PyProof.Rows.callWith_kw (he := by rw [he]; rfl) (hplain := by rw [he]; rfl) (thn (pa_cons ha pa_nil he pos pins s σ H _ I h) fun us s1 ⟨vs, H1, I1, rv, q1⟩ => ?_)
  refine thn (pk_cons (nm := some "reverse") (kpos := kpos) hd pk_nil pos pins s1 σ H1 _ I1 q1) fun ws s2 ⟨zs, H2, I2, rz, q2⟩ => ?_
  obtain ⟨a, src, rfl, rfl, hS, hl, q⟩ := q2
  obtain ⟨u, rfl, r1⟩ := vals1 rv
  obtain ⟨z, rfl, rz1⟩ := vals1 rz
  cases r1
  cases (show z = .bool true from rz1)
  refine sorted_src (b := true) (src_coll (A := X.A.in1) (I.ok.hd hc) I2 hS) hl fun h1 h' tk dr D vs' ns' e k1 k2 hD g ia pm od => ?_
  obtain ⟨f, I'⟩ := sort_end (tk := tk) (dr := dr) I2 k1 k2 hD g ia (by rw [pm.length_eq]; exact hl)
  exact ⟨.ref D, _, I', rfl, q ns' D pm od f⟩
end
end L2

namespace L2
open PySem PySem.Spec PyProof.Rows
def Ris (a : Array Nat) : Prop := ∀ (i j x y : Nat), i < j → a[i]? = some x → a[j]? = some y → x < y
theorem below_go {a : Array Nat} {v : Nat} (ha : Ris a) : ∀ (fuel lo hi : Nat), lo ≤ hi → hi ≤ a.size → hi - lo ≤ fuel → (∀ i x, i < lo → a[i]? = some x → x < v) → (∀ i x, hi ≤ i → a[i]? = some x → v ≤ x) →
    SetTable.below.go a v fuel lo hi ≤ a.size ∧ (∀ i x, i < SetTable.below.go a v fuel lo hi → a[i]? = some x → x < v) ∧ ∀ i x, SetTable.below.go a v fuel lo hi ≤ i → a[i]? = some x → v ≤ x
  | 0, lo, hi, h1, h2, h3, h4, h5 => by
    have : hi = lo := by omega
    subst this
    exact ⟨h2, h4, h5⟩
  | fuel + 1, lo, hi, h1, h2, h3, h4, h5 => by
    unfold SetTable.below.go
    by_cases c : lo < hi
    · rw [if_pos c]
      have hm : (lo + hi) / 2 < a.size := by omega
      have em : a[(lo + hi) / 2]? = some a[(lo + hi) / 2] := Array.getElem?_eq_getElem hm
      have eg : a.getD ((lo + hi) / 2) v = a[(lo + hi) / 2] := by simp [Array.getD, hm]
      dsimp only
      rw [eg]
      by_cases d : a[(lo + hi) / 2] < v
      · rw [if_pos d]
        refine below_go ha fuel _ hi (by omega) h2 (by omega) (fun i x hi' e => ?_) h5
        by_cases q : i = (lo + hi) / 2
        · subst q
          rw [em] at e
          cases e
          exact d
        · have := ha i _ x _ (show i < (lo + hi) / 2 by omega) e em
          omega
      · rw [if_neg d]
        refine below_go ha fuel lo _ (by omega) (by omega) (by omega) h4 (fun i x hi' e => ?_)
        by_cases q : i = (lo + hi) / 2
        · subst q
          rw [em] at e
          cases e
          omega
        · have := ha _ i _ x (show (lo + hi) / 2 < i by omega) em e
          omega
    · rw [if_neg c]
      have : hi = lo := by omega
      subst this
      exact ⟨h2, h4, h5⟩
theorem below_le {a : Array Nat} {v : Nat} (ha : Ris a) : SetTable.below a v ≤ a.size := (below_go ha a.size 0 a.size (Nat.zero_le _) (Nat.le_refl _) (Nat.le_refl _) (fun i x h => by omega) fun i x h e => by
  have := (Array.getElem?_eq_some_iff.mp e).1; omega).1
theorem below_lt {a : Array Nat} {v i x : Nat} (ha : Ris a) (h : i < SetTable.below a v) (e : a[i]? = some x) : x < v := (below_go ha a.size 0 a.size (Nat.zero_le _) (Nat.le_refl _) (Nat.le_refl _) (fun i x h => by omega) fun i x h e => by
  have := (Array.getElem?_eq_some_iff.mp e).1; omega).2.1 i x h e
theorem below_ge {a : Array Nat} {v i x : Nat} (ha : Ris a) (h : SetTable.below a v ≤ i) (e : a[i]? = some x) : v ≤ x := (below_go ha a.size 0 a.size (Nat.zero_le _) (Nat.le_refl _) (Nat.le_refl _) (fun i x h => by omega) fun i x h e => by
  have := (Array.getElem?_eq_some_iff.mp e).1; omega).2.2 i x h e
theorem below_next {a : Array Nat} {i x : Nat} (ha : Ris a) (e : a[i]? = some x) : SetTable.below a (x + 1) = i + 1 := by
  have hi := (Array.getElem?_eq_some_iff.mp e).1
  have h1 : ¬ SetTable.below a (x + 1) ≤ i := fun z => by
    have := below_ge ha z e
    omega
  have h2 := below_le (v := x + 1) ha
  by_cases c : SetTable.below a (x + 1) = i + 1
  · exact c
  · have h3 : i + 1 < SetTable.below a (x + 1) := by omega
    have e' : a[i + 1]? = some a[i + 1] := Array.getElem?_eq_getElem (by omega)
    have h4 := below_lt ha h3 e'
    have h5 := ha i (i + 1) x _ (by omega) e e'
    omega
theorem below_zero {a : Array Nat} (ha : Ris a) : SetTable.below a 0 = 0 := by
  by_cases c : SetTable.below a 0 = 0
  · exact c
  · have h2 := below_le (v := 0) ha
    have e' : a[0]? = some a[0] := Array.getElem?_eq_getElem (by omega)
    exact absurd (below_lt (v := 0) (i := 0) ha (Nat.pos_of_ne_zero c) e') (Nat.not_lt_zero _)
theorem ris_of {a : Array Nat} (h : a.toList.Pairwise (· < ·)) : Ris a := fun i j x y ij ei ej => by
  rw [← Array.getElem?_toList] at ei ej
  obtain ⟨hi, rfl⟩ := List.getElem?_eq_some_iff.mp ei
  obtain ⟨hj, rfl⟩ := List.getElem?_eq_some_iff.mp ej
  exact List.pairwise_iff_getElem.mp h i j hi hj ij
theorem of_ris {a : Array Nat} (h : Ris a) : a.toList.Pairwise (· < ·) := List.pairwise_iff_getElem.mpr fun i j hi hj ij => h i j _ _ ij (by rw [← Array.getElem?_toList, List.getElem?_eq_getElem hi]) (by rw [← Array.getElem?_toList, List.getElem?_eq_getElem hj])
theorem ris_insert {a : Array Nat} {v : Nat} (ha : Ris a) (hv : a[SetTable.below a v]? ≠ some v) : Ris (SetTable.insertAt a (SetTable.below a v) v) := by
  refine ris_of ?_
  rw [SetTable.toList_insertAt]
  have pw := of_ris ha
  have lt : ∀ x ∈ a.toList.take (SetTable.below a v), x < v := fun x hx => by
    obtain ⟨i, hi, rfl⟩ := List.mem_iff_getElem.mp hx
    rw [List.length_take] at hi
    exact below_lt (i := i) ha (by omega) (by rw [← Array.getElem?_toList, List.getElem_take, List.getElem?_eq_getElem])
  have gt : ∀ x ∈ a.toList.drop (SetTable.below a v), v < x := fun x hx => by
    obtain ⟨i, hi, rfl⟩ := List.mem_iff_getElem.mp hx
    rw [List.length_drop] at hi
    have e : a[SetTable.below a v + i]? = some (a.toList.drop (SetTable.below a v))[i] := by rw [← Array.getElem?_toList, List.getElem_drop, List.getElem?_eq_getElem]
    have h1 := below_ge (v := v) ha (Nat.le_add_right _ i) e
    by_cases c : (a.toList.drop (SetTable.below a v))[i] = v
    · cases i with
      | zero =>
        rw [c] at e
        exact absurd e hv
      | succ i =>
        have hb : SetTable.below a v < a.size := by simp at hi; omega
        have e0 : a[SetTable.below a v]? = some a[SetTable.below a v] := Array.getElem?_eq_getElem hb
        have h2 := below_ge (v := v) ha (Nat.le_refl _) e0
        have h3 := ha _ _ _ _ (show SetTable.below a v < SetTable.below a v + (i + 1) by omega) e0 e
        omega
    · omega
  refine List.pairwise_append.mpr ⟨pw.sublist (List.take_sublist _ _), List.pairwise_cons.mpr ⟨gt, pw.sublist (List.drop_sublist _ _)⟩, fun x hx y hy => ?_⟩
  rcases List.mem_cons.mp hy with rfl | hy
  · exact lt x hx
  · exact Nat.lt_trans (lt x hx) (gt y hy)
theorem probe_go {t : SetTable} {hashAt : Nat → Int} {h : Int} : ∀ (fuel : Nat) (p : SetTable.Probe) (j : Nat) (d : Option Nat), (∀ k, p.dummy = some k → t.place[SetTable.below t.place k]? ≠ some k) → SetTable.probe.go t hashAt h fuel p = some (.empty j d) →
    t.place[SetTable.below t.place (d.getD j)]? ≠ some (d.getD j)
  | 0, _, _, _, _, e => by cases e
  | fuel + 1, p, j, d, hp, e => by
    unfold SetTable.probe.go at e
    have sl : ∀ k, (t.slot k = .empty ∨ t.slot k = .dummy) → t.place[SetTable.below t.place k]? ≠ some k := fun k hk z => by
      unfold SetTable.slot at hk
      dsimp only at hk
      rw [if_pos (by rw [z]; simp)] at hk
      rcases hk with q | q <;> cases q
    have ad : ∀ q : SetTable.Probe, (t.advance q).dummy = q.dummy := fun q => by
      unfold SetTable.advance
      split <;> rfl
    cases hs : t.slot p.j with
    | empty =>
      rw [hs] at e
      cases e
      cases hd : p.dummy with
      | none => exact sl _ (.inl hs)
      | some k => exact hp k hd
    | dummy =>
      rw [hs] at e
      refine probe_go fuel _ j d (fun k hk => ?_) e
      rw [ad] at hk
      cases hk
      exact sl _ (.inr hs)
    | live i =>
      rw [hs] at e
      dsimp only at e
      split at e
      · cases e
      · refine probe_go fuel _ j d (fun k hk => ?_) e
        rw [ad] at hk
        exact hp k hk
theorem free_slot {t : SetTable} {h : Int} {j : Nat} {b : Bool} (e : t.freeSlot h = some (j, b)) : t.place[SetTable.below t.place j]? ≠ some j := by
  unfold SetTable.freeSlot at e
  split at e
  · rename_i j' d hq
    cases e
    exact probe_go _ _ _ _ (fun k hk => by cases hk) hq
  · cases e
theorem ris_standIn (t : SetTable) (n : Nat) : Ris (t.standIn n).place := ris_of (by
  show (Array.range n).toList.Pairwise (· < ·)
  rw [Array.toList_range]
  exact List.pairwise_lt_range)
theorem ris_orStandIn {t : SetTable} (h : Ris t.place) (n : Nat) : Ris (t.orStandIn n).place := by
  unfold SetTable.orStandIn
  split
  · exact h
  · exact ris_standIn t n
theorem ris_layNew {t : SetTable} (ht : Ris t.place) (es : Array (Int × Value)) (h : Int) (x : Value) : Ris (layNew t es h x).2.1.place := by
  unfold layNew
  split
  · rename_i slot b e
    exact ris_orStandIn (ris_insert ht (free_slot e)) _
  · exact ris_standIn _ _
theorem ris_relayAll {t : SetTable} (es : Array (Int × Value)) (n : Nat) : Ris (relayAll t es n).2.1.place := by
  unfold relayAll
  split
  · rename_i t' order e
    dsimp only
    split
    · unfold SetTable.relaid SetTable.laid at e
      cases q : SetTable.layClean (SetTable.sizeAbove n - 1) (es.map (·.1)) with
      | none => rw [q] at e; cases e
      | some owner =>
        rw [q] at e
        have e' := congrArg (fun z => z.map (·.1.place.toList)) e
        refine ris_of ?_
        have e2 : t'.place.toList = (((List.range (SetTable.sizeAbove n - 1 + 1)).filterMap fun j => (owner.getD j none).map (j, ·)).map (·.1)) := (Option.some.inj e').symm
        rw [e2, List.pairwise_map]
        refine List.Pairwise.filterMap (R := (· < ·)) _ (fun a b ab x hx y hy => ?_) List.pairwise_lt_range
        obtain ⟨_, _, rfl⟩ := Option.map_eq_some_iff.mp hx
        obtain ⟨_, _, rfl⟩ := Option.map_eq_some_iff.mp hy
        exact ab
    · exact ris_standIn _ _
  · exact ris_standIn _ _
theorem led_layNew (t : SetTable) (es : Array (Int × Value)) (h : Int) (x : Value) : (layNew t es h x).2.1.led = t.led := by
  unfold layNew
  split
  · dsimp only
    unfold SetTable.orStandIn
    split <;> rfl
  · rfl
theorem led_relayAll (t : SetTable) (es : Array (Int × Value)) (n : Nat) : (relayAll t es n).2.1.led = t.led := by
  unfold relayAll
  split
  · rename_i t' order e
    dsimp only
    split
    · unfold SetTable.relaid SetTable.laid at e
      cases q : SetTable.layClean (SetTable.sizeAbove n - 1) (es.map (·.1)) with
      | none => rw [q] at e; cases e
      | some owner =>
        rw [q] at e
        exact (Option.some.inj (congrArg (fun z => z.map (·.1.led)) e)).symm
    · rfl
  · rfl
end L2

namespace L2
open PySem PySem.Spec PyProof.Rows
def nOf : Value → Int
  | .int n _ => n
  | _ => 0
section
variable {prog : Program} {w : World} {A : Around} {E : Value → Shared → Prop} {s : Shared}
def SetI (prog : Program) (w : World) (h : Heap) (a : Addr) (ms : List Int) : Prop :=
  ∃ o es ep t, h.get? a = some o ∧ o.ExactSet ∧ o.data = .set es ep t ∧ ElemsOf (intKind prog w) es.toList ∧ ms = es.toList.map (fun e => nOf e.2) ∧ ms.Nodup ∧ es.size < scanBound ∧ t.fits es.size = true ∧ Ris t.place ∧ t.led = !w.params.followText "set-order"
theorem elem_int {es : List (Int × Value)} (h : ElemsOf (intKind prog w) es) {e : Int × Value} (he : e ∈ es) : ∃ t, e.2 = .int (nOf e.2) t := by
  obtain ⟨⟨k, hk, _⟩, _⟩ := h e he
  have hk' : Value.isInt k e.2 = true := hk
  cases q : e.2 with
  | int i t => exact ⟨t, rfl⟩
  | _ => rw [q] at hk'; cases hk'
theorem is_nOf {es : List (Int × Value)} (h : ElemsOf (intKind prog w) es) {e : Int × Value} (he : e ∈ es) (k : Int) : (intKind prog w).is k e.2 = true ↔ nOf e.2 = k := by
  obtain ⟨t, et⟩ := elem_int h he
  rw [et]
  show Value.isInt k (.int (nOf e.2) t) = true ↔ nOf e.2 = k
  exact ⟨fun z => eq_of_beq z, fun z => by subst z; exact beq_self_eq_true _⟩
theorem mem_vals {es : List (Int × Value)} (h : ElemsOf (intKind prog w) es) (k : Int) : k ∈ es.map (fun e => nOf e.2) ↔ ∃ e ∈ es, (intKind prog w).is k e.2 = true := by
  rw [List.mem_map]
  exact ⟨fun ⟨e, he, q⟩ => ⟨e, he, (is_nOf h he k).mpr q⟩, fun ⟨e, he, q⟩ => ⟨e, he, (is_nOf h he k).mp q⟩⟩
theorem put_at {h : Heap} {a : Addr} {o : Obj} {es : Array (Int × Value)} {ep : Nat} {t : SetTable} (ho : h.get? a = some o) (hex : o.ExactSet) (hd : o.data = .set es ep t) {es' : Array (Int × Value)} {t' : SetTable}
    (hel : ElemsOf (intKind prog w) es'.toList) (hb : es'.size < scanBound) (hf : t'.fits es'.size = true) : (h.update a (Obj.putSet es' t')).get? a = some { o with data := .set es' (ep + 1) t' } :=
  (SetOf_store (knd := intKind prog w) (S' := fun k => (es'.toList.map fun e => nOf e.2).contains k) ho hex hd hel (fun k => by rw [List.contains_iff_mem, mem_vals hel]) hb hf).1
theorem add_int {a : Addr} {ms : List Int} {k : Int} {tk : Tok} {Q : Bool → Shared → Prop} (hS : SetI prog w s.heap a ms) (hroom : ms.length + 1 < scanBound)
    (h : ∀ b h' ms', Heap.SameBut a s.heap h' → SetI prog w h' a ms' → (∀ j, j ∈ ms' ↔ j ∈ ms ∨ j = k) → ms'.length ≤ ms.length + 1 → Q b { s with heap := h' }) :
    wpAny (model prog w) A (setAddHashed a (.int k tk) ((intKind prog w).hash k)) Q E s := by
  obtain ⟨o, es, ep, t, ho, hex, hd, hel, rfl, nd, hb, hf, ri, ld⟩ := hS
  have hkey : (intKind prog w).is k (.int k tk) = true := intKind_is _ _ _ _
  rw [List.length_map, Array.length_toList] at hroom
  unfold setAddHashed setAddHashedIn
  refine wpAny_holding (wpAny_bind (wpAny_setState_of ho hd hf ?_))
  dsimp only
  rw [byScan_of rfl hb hel, if_pos rfl]
  unfold setAddByScan
  refine wpAny_bind (wpAny_bind (wpAny_rule (wpAny_bind (wpAny_setScan_of hkey ho hd hf hel ?_))))
  cases hr : List.findIdx? (fun e => (intKind prog w).is k e.2) es.toList with
  | some j =>
    obtain ⟨hj, hpj, _⟩ := List.findIdx?_eq_some_iff_getElem.mp hr
    have hk : k ∈ es.toList.map (fun e => nOf e.2) := (mem_vals hel k).mpr ⟨_, List.getElem_mem hj, hpj⟩
    refine wpAny_pure (wpAny_pure ?_)
    have := h false s.heap _ (Heap.SameBut.refl a s.heap) ⟨o, es, ep, t, ho, hex, hd, hel, rfl, nd, hb, hf, ri, ld⟩ (fun j => ⟨.inl, fun z => z.elim id fun z => by rw [z]; exact hk⟩) (Nat.le_succ _)
    cases s
    exact this
  | none =>
    have hk : ¬ k ∈ es.toList.map (fun e => nOf e.2) := fun z => by
      obtain ⟨e, he, q⟩ := (mem_vals hel k).mp z
      have := List.findIdx?_eq_none_iff.mp hr e he
      rw [q] at this
      cases this
    dsimp only
    have hperm := layNew_perm t es ((intKind prog w).hash k) (.int k tk)
    have hfits := layNew_fits t es ((intKind prog w).hash k) (.int k tk)
    have hris := ris_layNew ri es ((intKind prog w).hash k) (.int k tk)
    have hled := led_layNew t es ((intKind prog w).hash k) (.int k tk)
    generalize layNew t es ((intKind prog w).hash k) (.int k tk) = L at hperm hfits hris hled ⊢
    obtain ⟨es1, t1, wd, gave⟩ := L
    dsimp only at hperm hfits hris hled ⊢
    rw [Array.toList_push] at hperm
    have hel1 : ElemsOf (intKind prog w) es1.toList := (hel.push hkey rfl).perm hperm
    have sz1 : es1.size = es.size + 1 := by
      have := hperm.length_eq
      simpa using this
    have vals1 : (es1.toList.map fun e => nOf e.2).Perm (es.toList.map (fun e => nOf e.2) ++ [k]) := by
      have := hperm.map (fun e => nOf e.2)
      rw [List.map_append] at this
      exact this
    have nd1 : (es1.toList.map fun e => nOf e.2).Nodup := vals1.nodup_iff.mpr (nd_snoc nd hk)
    have mem1 : ∀ j, j ∈ (es1.toList.map fun e => nOf e.2) ↔ j ∈ es.toList.map (fun e => nOf e.2) ∨ j = k := fun j => by rw [vals1.mem_iff, List.mem_append, List.mem_singleton]
    have len1 : (es1.toList.map fun e => nOf e.2).length ≤ (es.toList.map (fun e => nOf e.2)).length + 1 := by rw [vals1.length_eq, List.length_append]; exact Nat.le_refl _
    have hgw : ∀ (b : Bool) (s₁ : Shared) (Q' : Unit → Shared → Prop), Q' () s₁ → wpAny (model prog w) A (match b with | true => rule "set.scan.the-table-gave-way" | false => pure ()) Q' E s₁ :=
      fun b s₁ Q' hq => by cases b <;> first | exact wpAny_pure hq | exact wpAny_rule hq
    have tail : ∀ t2 : SetTable, t2.fits es1.size = true → Ris t2.place → t2.led = (!w.params.followText "set-order") →
        wpAny (model prog w) A (do
          storeSet a es1 t2
          if (!wd && t2.tooFull) = true then do
              (match (relayAll t2 es1 (SetTable.grown es1.size)).2.2 with | true => rule "set.scan.the-table-gave-way" | false => pure ())
              storeSet a (relayAll t2 es1 (SetTable.grown es1.size)).1 (relayAll t2 es1 (SetTable.grown es1.size)).2.1
              pure (some true)
            else pure (some true)) (fun r s' => ∃ h' ms', r = some true ∧ s' = { s with heap := h' } ∧ Heap.SameBut a s.heap h' ∧ SetI prog w h' a ms' ∧ (∀ j, j ∈ ms' ↔ j ∈ es.toList.map (fun e => nOf e.2) ∨ j = k) ∧ ms'.length ≤ (es.toList.map (fun e => nOf e.2)).length + 1) E s := by
      intro t2 f2 r2 l2
      refine wpAny_bind (wpAny_storeSet_of ho hd ?_ (fits_of_scanBound (by omega)))
      have ho1 := put_at (prog := prog) (w := w) ho hex hd hel1 (by omega) f2
      have sb1 := Heap.SameBut.update s.heap a (Obj.putSet es1 t2)
      split
      · have hp := relayAll_perm t2 es1 (SetTable.grown es1.size)
        have hfr := relayAll_fits t2 es1 (SetTable.grown es1.size)
        have hri := ris_relayAll (t := t2) es1 (SetTable.grown es1.size)
        have hld := led_relayAll t2 es1 (SetTable.grown es1.size)
        generalize relayAll t2 es1 (SetTable.grown es1.size) = Rl at hp hfr hri hld ⊢
        obtain ⟨es2, t3, g2⟩ := Rl
        dsimp only at hp hfr hri hld ⊢
        have sz2 : es2.size = es1.size := by
          have := hp.length_eq
          simpa using this
        have hv := hp.map (fun e => nOf e.2)
        refine wpAny_bind (hgw _ _ _ ?_)
        refine wpAny_bind (wpAny_storeSet_of ho1 rfl ?_ (fits_of_scanBound (by omega)))
        have ho2 := put_at (prog := prog) (w := w) ho1 hex rfl (hel1.perm hp) (by omega) hfr
        exact wpAny_pure ⟨_, _, rfl, rfl, sb1.trans (Heap.SameBut.update _ a _), ⟨_, es2, _, t3, ho2, hex, rfl, hel1.perm hp, rfl, hv.nodup_iff.mpr nd1, by omega, hfr, hri, by rw [hld, l2]⟩, fun j => by rw [hv.mem_iff, mem1], by rw [hv.length_eq]; exact len1⟩
      · exact wpAny_pure ⟨_, _, rfl, rfl, sb1, ⟨_, es1, _, t2, ho1, hex, rfl, hel1, rfl, nd1, by omega, f2, r2, l2⟩, mem1, len1⟩
    have fin : ∀ (r : Option Bool) (s' : Shared), (∃ h' ms', r = some true ∧ s' = { s with heap := h' } ∧ Heap.SameBut a s.heap h' ∧ SetI prog w h' a ms' ∧ (∀ j, j ∈ ms' ↔ j ∈ es.toList.map (fun e => nOf e.2) ∨ j = k) ∧ ms'.length ≤ (es.toList.map (fun e => nOf e.2)).length + 1) → r = some true ∧ Q true s' := by
      rintro r s' ⟨h', ms', rfl, rfl, q1, q2, q3, q4⟩
      exact ⟨rfl, h true h' ms' q1 q2 q3 q4⟩
    refine wpAny_bind (hgw _ _ _ ?_)
    split
    · refine wpAny_bind ?_
      rw [hashByValue_scannable 8 rfl]
      refine wpAny_pure ?_
      refine wpAny_mono (tail _ ?_ ?_ ?_) (fun r s' q => ?_) fun _ _ z => z
      · exact hfits
      · exact hris
      · rw [← ld, ← hled]; rfl
      · obtain ⟨rfl, q9⟩ := fin _ _ q
        exact wpAny_pure q9
    · refine wpAny_bind (wpAny_pure ?_)
      simp only [↓reduceIte]
      refine wpAny_mono (tail _ hfits hris (by rw [hled]; exact ld)) (fun r s' q => ?_) fun _ _ z => z
      obtain ⟨rfl, q9⟩ := fin _ _ q
      exact wpAny_pure q9
end
end L2

namespace L2
open PySem PySem.Spec PyProof.Rows
section
variable {prog : Program} {w : World} {A : Around} {R : Result → Shared → Prop} {I : Addr} {fp wr : List Addr} {G : Array GenState → Array GenState → Prop} {n : Nat} {P : Nat → Value → Prop} {St : Nat → Shared → Prop}
theorem SetI.at {h h' : Heap} {a : Addr} {ms : List Int} (hS : SetI prog w h a ms) (k : ∀ o, h.get? a = some o → h'.get? a = some o) : SetI prog w h' a ms := by
  obtain ⟨o, es, ep, t, ho, rest⟩ := hS
  exact ⟨o, es, ep, t, k o ho, rest⟩
theorem upd_loop (W : WalksS prog w A.in1 I fp wr G n P St) (S : Addr) (hSf : S ∉ fp) (val : Nat → Int) (hval : ∀ i v, P i v → ∃ t, v = .int (val i) t) (hb : n + 1 < scanBound) :
    ∀ (k i : Nat) (s : Shared) (ms : List Int), n - i = k → i ≤ n → St i s → SetI prog w s.heap S ms → ms.length ≤ i → (∀ j, j ∈ ms ↔ ∃ m, m < i ∧ val m = j) →
      (∀ s' ms', Moved (S :: wr) G s s' → SetI prog w s'.heap S ms' → (∀ j, j ∈ ms' ↔ ∃ m, m < n ∧ val m = j) → R (.ok (.ret .none)) s') →
      codeAny (model prog w) A (.builtin "set.update.loop" ⟨[.ref S, .ref I], []⟩) R s := by
  have hSw : S ∉ wr := fun h => hSf (W.sub _ h)
  have sub : ∀ b ∈ wr, b ∈ S :: wr := fun b hb => List.mem_cons_of_mem _ hb
  intro k
  induction k with
  | zero =>
    intro i s ms hk hi hst hS hl hm0 hR
    have e0 : i = n := by omega
    subst e0
    refine codeAny_builtin F.entry_set_update_loop ?_
    rw [Around.under_plainId F.plain_set_update_loop _]
    show wpAny _ A.in1 (pyNext (.ref I) >>= _) _ _ s
    refine wpAny_bind (W.done s _ _ hst fun s' hm => ?_)
    exact wpAny_pure (hR s' ms (hm.mono sub) (hS.at fun o e => hm.heap S _ hSw e) hm0)
  | succ k ih =>
    intro i s ms hk hi hst hS hl hm0 hR
    have lt : i < n := by omega
    refine codeAny_builtin F.entry_set_update_loop ?_
    rw [Around.under_plainId F.plain_set_update_loop _]
    show wpAny _ A.in1 (pyNext (.ref I) >>= _) _ _ s
    refine wpAny_bind (W.item i s _ _ lt hst fun v s' hP hst' hm => ?_)
    obtain ⟨t, rfl⟩ := hval i v hP
    have hS' := hS.at (h' := s'.heap) fun o e => hm.heap S _ hSw e
    show wpAny _ A.in1 (holding [Value.int (val i) t] (setAdd S (.int (val i) t)) >>= _) _ _ s'
    unfold setAdd
    refine wpAny_bind (wpAny_holding (wpAny_holding (wpAny_bind ((intKind prog w).pyHash (k := val i) (intKind_is _ _ _ _) ?_))))
    refine add_int (s := { s' with toks := s'.toks + 1 }) hS' (by omega) fun b h' ms' hsb hS2 hm2 hl2 => ?_
    refine wpAny_pure ⟨plainId_quiet F.plain_set_update_loop _, ih (i + 1) _ ms' (by omega) lt (W.frame _ s' _ _ hst' (Nat.le_succ _) fun b hb o e => ?_) hS2 (by omega) (fun j => ?_) fun s'' ms'' hm'' hS'' hj => ?_⟩
    · rw [hsb.2 b (fun h : b = S => hSf (by rw [← h]; exact hb))]
      exact e
    · rw [hm2, hm0]
      constructor
      · rintro (⟨m, h1, h2⟩ | h1)
        · exact ⟨m, by omega, h2⟩
        · exact ⟨i, by omega, h1.symm⟩
      · rintro ⟨m, h1, h2⟩
        by_cases c : m = i
        · subst c
          exact .inr h2.symm
        · exact .inl ⟨m, by omega, h2⟩
    · refine hR s'' ms'' (Moved.trans W.gtrans ((hm.mono sub).then_heap (Nat.le_succ _) fun b o hb e => ?_) hm'') hS'' hj
      rw [hsb.2 b (fun h : b = S => hb (by rw [h]; exact List.mem_cons_self))]
      exact e
end
section
variable {prog : Program} {w : World} {A : Around} {E : Value → Shared → Prop} {s : Shared}
abbrev set0 (b : Bool) : Obj := { cls := .type "set", dict := none, data := .set #[] 0 (.fresh 0 0 b) }
theorem set_new (a : Value) {Q₁ : Value → Shared → Prop} (h : Q₁ (.ref s.heap.objs.size) { s with heap := s.heap.push (set0 (!w.params.followText "set-order")) }) :
    codeAny (model prog w) A (.call (.builtin "set.__new__") ⟨[.type "set", a], []⟩) (wants Q₁ E) s := by
  refine codeAny_of_tree ?_
  show wpAny _ A.in1 (do checkBuiltinCall "set.__new__" ⟨[.type "set", a], []⟩; again (.builtin "set.__new__" ⟨[.type "set", a], []⟩)) _ _ s
  refine wpAny_bind (wpAny_of_eq (F.newCall_set_1 a) (wpAny_pure ⟨plainId_quiet F.plain_set_new _, codeAny_builtin F.entry_set_new ?_⟩))
  rw [Around.under_plainId F.plain_set_new _]
  unfold Builtin.«set.__new__» Builtin.Frozenset.newClass
  have hsub := sub_set_self
  obtain ⟨hp, g, d, tk, os⟩ := s
  dsimp only
  wp_walk
  refine wpAny_askSetting (wpAny_pure ?_)
  dsimp only
  simp only [newObj]
  refine wpAny_bind (wpAny_alloc (wpAny_pure ?_))
  exact wpAny_pure h
theorem set0_is {h : Heap} {a : Addr} (e : h.get? a = some (set0 (!w.params.followText "set-order"))) : SetI prog w h a [] :=
  ⟨_, #[], 0, _, e, ⟨rfl, rfl, rfl⟩, rfl, fun e he => by simp at he, rfl, List.nodup_nil, by decide, by rfl, fun i j x y _ q => by simp [SetTable.fresh] at q, rfl⟩
theorem call_setL {l : Addr} {vs : List Value} {ns : List Int} {Q : Value → Shared → Prop} (hh : A.handled = none) (hl : s.heap.IsList l vs.toArray) (hi : IntsAre vs ns) (hb : vs.length + 1 < scanBound)
    (h : ∀ (h' : Heap) (tk : Nat) (ms : List Int), SetI prog w h' s.heap.objs.size ms → (∀ j, j ∈ ms ↔ j ∈ ns) → (∀ b o, b < s.heap.objs.size → s.heap.get? b = some o → h'.get? b = some o) → Q (.ref s.heap.objs.size) { s with heap := h', toks := tk }) :
    wpAny (model prog w) A (call (.type "set") [.ref l]) Q E s := by
  obtain ⟨c, tl, hmro⟩ := F.called_set.mro
  have hmade := F.called_set.made
  have hsub := F.called_set.sub
  refine wpAny_call (codeAny_of_tree ?_)
  show wpAny _ _ (callAny (.type "set") _) _ _ _
  refine wpAny_pure ⟨Code.quiet_builtin _ (by decide +kernel), codeAny_builtin F.entry_type_call ?_⟩
  rw [Around.under_plain (weight_type_call_type "set" [.ref l] []) rfl]
  have h1 := F.called_set.notType
  have h2 := F.called_set.canCreate
  have hct := F.typeCall_set_1 (.ref l)
  repeat (any_goals (first | assumption | wp_step))
  generalize hb0 : (!w.params.followText "set-order") = b0
  refine codeAny_mono (set_new (.ref l) (E := E) (Q₁ := fun obj s₁ => obj = .ref s.heap.objs.size ∧ s₁ = { s with heap := s.heap.push (set0 b0) }) ⟨rfl, by rw [hb0]⟩) fun r s₁ hr => ?_
  cases r with
  | error e => exact hr
  | ok fl =>
    cases fl with
    | ret obj =>
      obtain ⟨rfl, rfl⟩ := hr
      have hS : (s.heap.push (set0 b0)).get? s.heap.objs.size = some (set0 b0) := Heap.get?_push_size _ rfl
      have hT : Shared.TypeIs { s with heap := s.heap.push (set0 b0) } (.ref s.heap.objs.size) "set" := ⟨_, hS, rfl⟩
      have hli := F.called_set.init.lookup
      have hbi := F.called_set.init.bind (.ref s.heap.objs.size)
      repeat (any_goals (first | assumption | wp_step))
      refine codeAny_mono (codeAny_call_builtin (R := wants (fun r s₂ => r = .none ∧ ∃ h' tk ms, s₂ = { s with heap := h', toks := tk } ∧ SetI prog w h' s.heap.objs.size ms ∧ (∀ j, j ∈ ms ↔ j ∈ ns) ∧
          (∀ b o, b < s.heap.objs.size → s.heap.get? b = some o → h'.get? b = some o)) E) F.called_set.init.plain F.entry_set_init (check_set_init_1 hT ?_)) fun r₂ s₂ hr₂ => ?_
      · obtain ⟨ol, hol, hcl, nl, hdl⟩ := hl
        obtain ⟨ocls, odict, odata, oslots⟩ := ol
        simp only at hcl hdl
        subst hcl
        subst hdl
        have hol' : (s.heap.push (set0 b0)).get? l = some { cls := .type "list", dict := odict, data := .seq vs.toArray nl, slots := oslots } := Heap.get?_push_of_some _ hol
        have hsls := F.sub_list_set
        have hslf := F.sub_list_frozenset
        have hne : (Value.type "list" == Value.type "dict") = false := by decide
        have hl1 : (s.heap.push (set0 b0)).IsList l vs.toArray := ⟨_, hol', rfl, nl, rfl⟩
        unfold Builtin.«set.__init__» noKeywords Builtin.Frozenset.updateFrom
        generalize hPI : pyIter = PI
        wp_walk
        subst hPI
        refine wpAny_pyIter_list hl1 ?_
        refine wpAny_bind (wpAny_runValue ?_)
        have hlS : l < s.heap.objs.size := Heap.lt_size hol
        have hh3 : A.in1.in1.in1.handled = none := by simp [hh]
        have hneI : l ≠ (s.heap.push (set0 b0)).objs.size := by
          rw [Heap.size_push]
          exact Nat.ne_of_lt (Nat.lt_succ_of_lt hlS)
        have hSf : s.heap.objs.size ∉ [(s.heap.push (set0 b0)).objs.size, l] := by
          rw [Heap.size_push]
          simp only [List.mem_cons, List.mem_singleton, List.not_mem_nil, or_false, not_or]
          exact ⟨Nat.ne_of_lt (Nat.lt_succ_self _), Nat.ne_of_gt hlS⟩
        have hval : ∀ (i : Nat) (v : Value), vs.toArray[i]? = some v → ∃ t, v = .int ((fun i => ns.getD i 0) i) t := fun i v hv => IntsAre.int_at hi i v (by simpa using hv)
        refine upd_loop ((Walks.list hh3 _ l hneI vs.toArray).toS) s.heap.objs.size hSf (fun i => ns.getD i 0) hval (by simpa using hb) (vs.toArray.size - 0) 0 _ [] (by omega) (Nat.zero_le _)
          ⟨⟨_, Heap.get?_push_size _ rfl, rfl, rfl⟩, (hl1.push _)⟩ (set0_is (by rw [hb0]; exact Heap.get?_push_of_some _ hS)) (Nat.le_refl _) (fun j => by simp) ?_
        intro s' ms hm hS' hj
        obtain ⟨h', g', d', tk', os'⟩ := s'
        have eg : g' = s.gens := hm.gens
        have ed : d' = s.drawn := hm.drawn
        have eo : os' = s.os := hm.os
        subst eg
        subst ed
        subst eo
        show wpAny _ _ _ _ _ _
        refine wpAny_pure ?_
        show wpAny _ _ (ret Value.none) _ _ _
        refine wpAny_pure ⟨rfl, h', tk', ms, rfl, hS', fun j => ?_, fun b o hb e => ?_⟩
        · rw [hj]
          have el := hi.length
          constructor
          · rintro ⟨m, h1, rfl⟩
            exact getD_mem (by rw [← el]; simpa using h1)
          · intro hm'
            obtain ⟨m, h1, h2⟩ := mem_getD hm'
            exact ⟨m, by simpa [el] using h1, h2⟩
        · have hb1 : b ≠ s.heap.objs.size := Nat.ne_of_lt hb
          have hb2 : b ≠ (s.heap.push (set0 b0)).objs.size := by
            rw [Heap.size_push]
            exact Nat.ne_of_lt (Nat.lt_succ_of_lt hb)
          exact hm.heap b o (by simp only [List.mem_cons, List.mem_singleton, List.not_mem_nil, or_false, not_or]; exact ⟨hb1, hb2⟩) (Heap.get?_push_of_some _ (Heap.get?_push_of_some _ e))
      · cases r₂ with
        | error e => exact hr₂
        | ok fl₂ =>
          cases fl₂ with
          | ret r =>
            obtain ⟨rfl, h', tk, ms, rfl, hS', hj, hk'⟩ := hr₂
            repeat (any_goals (first | assumption | wp_step))
            exact h _ _ _ hS' hj hk'
          | _ => exact hr₂.elim
    | _ => exact hr.elim
end
end L2

namespace L2
open PySem PySem.Spec PyProof.Rows PySem.Calls
theorem slot_seti_next : Slot "set_iterator" "__next__" "set_iterator.__next__" :=
  .of (owner := "set_iterator") (n := "__next__") (by rw [typeLookup_type, builtinLookup_eq_fast]; kernel_rfl) (by decide +kernel) (by decide +kernel) (by decide +kernel)
    (by first | exact .inl (by decide +kernel) | exact .inr (by decide +kernel)) (by rw [isSubtype_type]; kernel_rfl)
theorem slot_seti_iter : Slot "set_iterator" "__iter__" "set_iterator.__iter__" :=
  .of (owner := "set_iterator") (n := "__iter__") (by rw [typeLookup_type, builtinLookup_eq_fast]; kernel_rfl) (by decide +kernel) (by decide +kernel) (by decide +kernel)
    (by first | exact .inl (by decide +kernel) | exact .inr (by decide +kernel)) (by rw [isSubtype_type]; kernel_rfl)
theorem entry_seti_next : entryFor table "set_iterator.__next__" = some Builtin.«set_iterator.__next__» := entryFor_of_tree (by kernel_rfl)
theorem entry_seti_iter : entryFor table "set_iterator.__iter__" = some Builtin.«dict_keyiterator.__iter__» :=
  entryFor_alias (id' := "dict_keyiterator.__iter__") (by kernel_rfl) rfl (by decide +kernel) (by kernel_rfl)
theorem entry_set_iter : entryFor table "set.__iter__" = some Builtin.«frozenset.__iter__» :=
  entryFor_alias (id' := "frozenset.__iter__") (by kernel_rfl) rfl (by decide +kernel) (by kernel_rfl)
theorem owner_seti : Manifest.owners.lookup (String.ofList ['r', 'o', 't', 'a', 'r', 'e', 't', 'i', '_', 't', 'e', 's'].reverse) = some Manifest.sig_set_iterator := by kernel_rfl
theorem args_seti_next (a : Value) : argsOk "set_iterator.__next__" ⟨[a], []⟩ := by
  unfold argsOk; rw [signature?_of (id := "set_iterator.__next__") (n := ['_', '_', 't', 'x', 'e', 'n', '_', '_']) (o := ['r', 'o', 't', 'a', 'r', 'e', 't', 'i', '_', 't', 'e', 's']) (by kernel_rfl) owner_seti]; kernel_rfl
theorem args_seti_iter (a : Value) : argsOk "set_iterator.__iter__" ⟨[a], []⟩ := by
  unfold argsOk; rw [signature?_of (id := "set_iterator.__iter__") (n := ['_', '_', 'r', 'e', 't', 'i', '_', '_']) (o := ['r', 'o', 't', 'a', 'r', 'e', 't', 'i', '_', 't', 'e', 's']) (by kernel_rfl) owner_seti]; kernel_rfl
section
variable {prog : Program} {w : World} {A : Around} {E : Value → Shared → Prop} {s : Shared} {I a : Addr} {o : Obj} {es : Array (Int × Value)} {ep : Nat} {t : SetTable}
theorem wpAny_choose' {M : Model} {src : Source} {n : Nat} {Q : Nat → Shared → Prop} (hn : n ≠ 0) (h : ∀ k d, k < n → Q k { s with drawn := d }) : wpAny M A (choose src n) Q E s := fun Γ p hΓ => by
  unfold choose
  rw [Sem.wp_choose]
  exact ⟨hn, h _ _ (Nat.mod_lt _ (Nat.pos_of_ne_zero hn))⟩
def setItO (fst : Value) (a : Addr) (i n ep : Nat) : Obj := { cls := .type "set_iterator", data := .fields #[fst, .int i 0, .ref a, .int n 0, .int ep 0] }
theorem seti_typ {h : Heap} {fst : Value} {i n : Nat} (hit : h.get? I = some (setItO fst a i n ep)) (hs : s.heap = h) : s.TypeIs (.ref I) "set_iterator" := ⟨_, by rw [hs]; exact hit, rfl⟩
theorem seti_self {fst : Value} {i n : Nat} {Q : Value → Shared → Prop} (hit : s.heap.get? I = some (setItO fst a i n ep)) (h : Q (.ref I) s) : wpAny (model prog w) A (pyIter (.ref I)) Q E s := by
  have ty := seti_typ (s := s) hit rfl
  refine wpAny_pyIter_slot ty slot_seti_iter (wpAny_call_entry slot_seti_iter ty entry_seti_iter ?_ (args_seti_iter _))
  show wpAny _ _ (ret (.ref I)) _ _ s
  exact wpAny_pure ⟨_, rfl, "set_iterator", _, ty, slot_seti_next.lookup, h⟩
theorem seti_item {i slot nx : Nat} {v : Value} {Q : Option Value → Shared → Prop} (hit : s.heap.get? I = some (setItO (.int slot 0) a i es.size ep)) (ho : s.heap.get? a = some o) (hd : o.data = .set es ep t) (hf : t.fits es.size = true)
    (hn : ∀ (E : Value → Shared → Prop) (R : Option (Value × Nat) → Shared → Prop), R (some (v, nx)) s → wpAny (model prog w) A.in1 (setNext a slot i ep) R E s)
    (hQ : ∀ h', h'.get? I = some (setItO (.int nx 0) a (i + 1) es.size ep) → Heap.SameBut I s.heap h' → Q (some v) { s with heap := h' }) : wpAny (model prog w) A (pyNext (.ref I)) Q E s := by
  have ty := seti_typ (s := s) hit rfl
  unfold pyNext
  refine wpAny_bind (wpAny_attempt (wpAny_callSpecial?_slot (name := Str.ofString "__next__") ty slot_seti_next (wpAny_call_entry slot_seti_next ty entry_seti_next ?_ (args_seti_next _))))
  unfold Builtin.«set_iterator.__next__»
  refine wpAny_bind (wpAny_pure ?_)
  refine wpAny_bind (wpAny_fieldsOf hit rfl ?_)
  dsimp only
  refine wpAny_bind (wpAny_setEntries_of ho hd hf ?_)
  rw [if_neg (by simp)]
  refine wpAny_bind (hn _ _ ?_)
  dsimp only
  refine wpAny_bind (wpAny_setField hit rfl (by simp) ?_)
  have h1 := Heap.get?_update_self (Obj.mapFields (·.setIfInBounds 0 (rawInt nx))) hit rfl
  refine wpAny_bind (wpAny_setField h1 rfl (by simp [Obj.mapFields, setItO]) ?_)
  have h2 := Heap.get?_update_self (Obj.mapFields (·.setIfInBounds 1 (rawInt (i + 1)))) h1 rfl
  refine wpAny_pure ⟨_, rfl, wpAny_pure (hQ _ ?_ ((Heap.SameBut.update ..).trans (Heap.SameBut.update ..)))⟩
  exact h2
theorem stop_tail {Q : Option Value → Shared → Prop} {h' : Heap} (hh : A.handled = none) (he : Heap.ExtBut I s.heap h') (hQ : ∀ h', Heap.ExtBut I s.heap h' → Q none { s with heap := h' }) {R : Fin → Shared → Prop} :
    wpAny (model prog w) A.in1 (newExc (.type "StopIteration") [] >>= fun e => (raiseNew e : Sem Fin)) R (fun e s' => wpAny (model prog w) A (do
      let b ← isInstance e (Value.type "StopIteration")
      if b = true then pure none else throw e) Q E s') { s with heap := h' } := by
  refine wpAny_bind ?_
  simp only [newExc, newTuple]
  refine wpAny_bind (wpAny_newObj_type ?_ (by size_fits))
  refine wpAny_bind (m := firstArgMember _ _) (wpAny_of_eq (a := Value.none) (by first | rfl | (simp only [firstArgMember]; rfl)) ?_)
  refine wpAny_newObj_type ?_ (by size_fits)
  simp only [raiseNew]
  refine wpAny_bind (wpAny_handled ?_)
  rw [show A.in1.handled = none from hh]
  refine wpAny_bind (wpAny_pure (wpAny_throw ?_))
  refine wpAny_bind (wpAny_isInstance (T := "StopIteration") (b := true) ⟨_, Heap.get?_push_size _ rfl, rfl⟩ isSubtype_stop ?_)
  exact wpAny_pure (hQ _ ((he.push _).push _))
theorem seti_end {i slot : Nat} {Q : Option Value → Shared → Prop} (hh : A.handled = none) (hit : s.heap.get? I = some (setItO (.int slot 0) a i es.size ep)) (ho : s.heap.get? a = some o) (hd : o.data = .set es ep t) (hf : t.fits es.size = true)
    (hn : ∀ (E : Value → Shared → Prop) (R : Option (Value × Nat) → Shared → Prop), R none s → wpAny (model prog w) A.in1 (setNext a slot i ep) R E s)
    (hQ : ∀ h', Heap.ExtBut I s.heap h' → Q none { s with heap := h' }) : wpAny (model prog w) A (pyNext (.ref I)) Q E s := by
  have ty := seti_typ (s := s) hit rfl
  unfold pyNext
  refine wpAny_bind (wpAny_attempt (wpAny_callSpecial?_slot (name := Str.ofString "__next__") ty slot_seti_next (wpAny_call_entry slot_seti_next ty entry_seti_next ?_ (args_seti_next _))))
  unfold Builtin.«set_iterator.__next__»
  refine wpAny_bind (wpAny_pure ?_)
  refine wpAny_bind (wpAny_fieldsOf hit rfl ?_)
  dsimp only
  refine wpAny_bind (wpAny_setEntries_of ho hd hf ?_)
  rw [if_neg (by simp)]
  refine wpAny_bind (hn _ _ ?_)
  dsimp only
  refine wpAny_bind (wpAny_setField hit rfl (by simp) ?_)
  exact stop_tail hh (Heap.SameBut.update ..).extBut hQ
theorem seti_itemT {i k : Nat} {v : Value} {hv : Int} {T : Addr} {ks : List Nat} {Q : Option Value → Shared → Prop} (hit : s.heap.get? I = some (setItO (.ref T) a i es.size ep)) (hT : s.heap.get? T = some { cls := .type "tuple", data := .seq (ks.map fun (k : Nat) => rawInt (k : Int)).toArray }) (ho : s.heap.get? a = some o) (hd : o.data = .set es ep t) (hf : t.fits es.size = true)
    (hk : ks[i]? = some k) (hv : es[k]? = some (hv, v))
    (hQ : ∀ h', h'.get? I = some (setItO (.ref T) a (i + 1) es.size ep) → Heap.SameBut I s.heap h' → Q (some v) { s with heap := h' }) : wpAny (model prog w) A (pyNext (.ref I)) Q E s := by
  have ty := seti_typ (s := s) hit rfl
  unfold pyNext
  refine wpAny_bind (wpAny_attempt (wpAny_callSpecial?_slot (name := Str.ofString "__next__") ty slot_seti_next (wpAny_call_entry slot_seti_next ty entry_seti_next ?_ (args_seti_next _))))
  unfold Builtin.«set_iterator.__next__»
  refine wpAny_bind (wpAny_pure ?_)
  refine wpAny_bind (wpAny_fieldsOf hit rfl ?_)
  dsimp only
  refine wpAny_bind (wpAny_setEntries_of ho hd hf ?_)
  rw [if_neg (by simp)]
  unfold seqItems?
  refine wpAny_bind (wpAny_bind (wpAny_load hT (wpAny_pure ?_)))
  dsimp only
  have hk' : (ks.map fun (k : Nat) => rawInt (k : Int)).toArray[i]? = some (rawInt (k : Int)) := by simp [hk]
  rw [show (i : Int).toNat = i from rfl, hk']
  simp only [rawInt]
  unfold setNextDrawn
  refine wpAny_bind (wpAny_bind (wpAny_setState_of ho hd hf ?_))
  dsimp only
  rw [if_neg (by simp), show (k : Int).toNat = k from rfl, hv]
  refine wpAny_pure ?_
  refine wpAny_bind (wpAny_setField hit rfl (by simp) ?_)
  have h1 := Heap.get?_update_self (Obj.mapFields (·.setIfInBounds 1 (rawInt (i + 1)))) hit rfl
  exact wpAny_pure ⟨_, rfl, wpAny_pure (hQ _ h1 (Heap.SameBut.update ..))⟩
theorem seti_endT {i : Nat} {T : Addr} {ks : List Nat} {Q : Option Value → Shared → Prop} (hh : A.handled = none) (hit : s.heap.get? I = some (setItO (.ref T) a i es.size ep)) (hT : s.heap.get? T = some { cls := .type "tuple", data := .seq (ks.map fun (k : Nat) => rawInt (k : Int)).toArray }) (ho : s.heap.get? a = some o) (hd : o.data = .set es ep t) (hf : t.fits es.size = true)
    (hk : ks.length ≤ i) (hQ : ∀ h', Heap.ExtBut I s.heap h' → Q none { s with heap := h' }) : wpAny (model prog w) A (pyNext (.ref I)) Q E s := by
  have ty := seti_typ (s := s) hit rfl
  unfold pyNext
  refine wpAny_bind (wpAny_attempt (wpAny_callSpecial?_slot (name := Str.ofString "__next__") ty slot_seti_next (wpAny_call_entry slot_seti_next ty entry_seti_next ?_ (args_seti_next _))))
  unfold Builtin.«set_iterator.__next__»
  refine wpAny_bind (wpAny_pure ?_)
  refine wpAny_bind (wpAny_fieldsOf hit rfl ?_)
  dsimp only
  refine wpAny_bind (wpAny_setEntries_of ho hd hf ?_)
  rw [if_neg (by simp)]
  unfold seqItems?
  refine wpAny_bind (wpAny_bind (wpAny_load hT (wpAny_pure ?_)))
  dsimp only
  have hk' : (ks.map fun (k : Nat) => rawInt (k : Int)).toArray[i]? = none := by simp [hk]
  rw [show (i : Int).toNat = i from rfl, hk']
  dsimp only
  refine wpAny_bind (wpAny_setField hit rfl (by simp) ?_)
  have h1 := Heap.get?_update_self (Obj.mapFields (·.setIfInBounds 0 (rawInt 0))) hit rfl
  refine wpAny_bind (wpAny_setField h1 rfl (by simp [Obj.mapFields, setItO]) ?_)
  exact stop_tail hh ((Heap.SameBut.update ..).trans (Heap.SameBut.update ..)).extBut hQ
theorem next_text {i : Nat} {R : Option (Value × Nat) → Shared → Prop} (hw : w.params.followText "set-order" = true) (ho : s.heap.get? a = some o) (hd : o.data = .set es ep t) (hf : t.fits es.size = true)
    (h : R (((pickOrder (w.params.setOrder a ep) es)[i]?).map fun e => (e.2, 0)) s) : wpAny (model prog w) A (setNext a 0 i ep) R E s := by
  unfold setNext
  refine wpAny_bind (wpAny_setState_of ho hd hf ?_)
  dsimp only
  unfold setsByText
  refine wpAny_bind (wpAny_bind (wpAny_askSetting (wpAny_pure ?_)))
  show wpAny _ _ (if w.params.followText "set-order" = true then _ else _) _ _ _
  rw [if_pos hw, if_neg (by simp)]
  unfold setWalk
  refine wpAny_bind (wpAny_bind (wpAny_setState_of ho hd hf ?_))
  dsimp only
  unfold setsByText
  refine wpAny_bind (wpAny_bind (wpAny_askSetting (wpAny_pure ?_)))
  show wpAny _ _ (if w.params.followText "set-order" = true then _ else _) _ _ _
  rw [if_pos hw]
  refine wpAny_bind (wpAny_askSetting (wpAny_pure ?_))
  exact wpAny_pure h
theorem next_plain {i slot : Nat} {R : Option (Value × Nat) → Shared → Prop} (hw : w.params.followText "set-order" = false) (hp : (!t.plain && decide (es.size > 1)) = false) (hl : t.led = true) (ho : s.heap.get? a = some o) (hd : o.data = .set es ep t) (hf : t.fits es.size = true)
    (h : R (match es[SetTable.below t.place slot]?, t.place[SetTable.below t.place slot]? with | some (_, x), some j => some (x, j + 1) | _, _ => none) s) : wpAny (model prog w) A (setNext a slot i ep) R E s := by
  unfold setNext
  refine wpAny_bind (wpAny_setState_of ho hd hf ?_)
  dsimp only
  unfold setsByText
  refine wpAny_bind (wpAny_bind (wpAny_askSetting (wpAny_pure ?_)))
  show wpAny _ _ (if w.params.followText "set-order" = true then _ else _) _ _ _
  rw [if_neg (by rw [hw]; exact Bool.false_ne_true)]
  show wpAny _ _ (if (!t.plain && decide (es.size > 1)) = true then _ else _) _ _ _
  rw [if_neg (by rw [hp]; exact Bool.false_ne_true)]
  show wpAny _ _ ((if (!t.led && !es.isEmpty) = true then _ else _) >>= _) _ _ _
  rw [if_neg (by rw [hl]; simp)]
  exact wpAny_bind (wpAny_pure (wpAny_pure h))
theorem erase_perm {α : Type} : ∀ (l : List α) (k : Nat) (h : k < l.length), (l[k] :: l.eraseIdx k).Perm l
  | x :: l, 0, h => List.Perm.refl _
  | x :: l, k + 1, h => by
    simp only [List.getElem_cons_succ, List.eraseIdx_cons_succ]
    exact (List.Perm.swap _ _ _).trans (List.Perm.cons _ (erase_perm l k _))
theorem draw_order {α : Type} {M : Model} : ∀ (n : Nat) (xs : List α) (s : Shared) (Q : List α → Shared → Prop), xs.length = n → (∀ ys d, ys.Perm xs → Q ys { s with drawn := d }) → wpAny M A (drawOrder n xs) Q E s
  | 0, xs, s, Q, hn, h => by
    have : xs = [] := List.length_eq_zero_iff.mp hn
    subst this
    exact wpAny_pure (by
      have := h [] s.drawn (List.Perm.refl _)
      cases s
      exact this)
  | n + 1, [], s, Q, hn, h => by cases hn
  | n + 1, x :: xs, s, Q, hn, h => by
    unfold drawOrder
    refine wpAny_bind (wpAny_choose' (by simp) fun k d hk => ?_)
    have e : (x :: xs)[k]? = some (x :: xs)[k] := List.getElem?_eq_getElem hk
    rw [e]
    dsimp only
    refine wpAny_bind (draw_order n _ _ _ (by rw [List.length_eraseIdx_of_lt hk]; omega) fun ys d' pm => wpAny_pure ?_)
    refine h _ d' ?_
    refine (List.Perm.cons _ pm).trans ?_
    exact erase_perm _ _ hk
theorem pick_go {α : Type} (next : Nat → Nat) : ∀ (fuel k : Nat) (left : List α) (out : Array α), left.length = fuel → (pickOrder.go next fuel k left out).toList.Perm (out.toList ++ left)
  | 0, k, left, out, h => by
    have : left = [] := List.length_eq_zero_iff.mp h
    subst this
    unfold pickOrder.go
    simp
  | fuel + 1, k, left, out, h => by
    unfold pickOrder.go
    have hk : next k % left.length < left.length := Nat.mod_lt _ (by omega)
    rw [List.getElem?_eq_getElem hk]
    dsimp only
    refine (pick_go next fuel (k + 1) _ _ (by rw [List.length_eraseIdx_of_lt hk]; omega)).trans ?_
    rw [Array.toList_push, List.append_assoc]
    exact List.Perm.append_left _ (erase_perm _ _ hk)
theorem pick_perm {α : Type} (next : Nat → Nat) (xs : Array α) : (pickOrder next xs).toList.Perm xs.toList := by
  have := pick_go next xs.size 0 xs.toList #[] (by simp)
  simpa [pickOrder] using this
theorem len_pick {α : Type} (next : Nat → Nat) (xs : Array α) : (pickOrder next xs).size = xs.size := by
  have := (pick_perm next xs).length_eq
  simpa using this
structure SetGo (prog : Program) (w : World) (A : Around) (a I : Addr) (ts : List Addr) (n : Nat) (vs : List Value) (St : Nat → Heap → Prop) : Prop where
  walk : Walks prog w A I (I :: a :: ts) [I] n (fun i v => vs[i]? = some v) St
theorem go_text (hh : A.handled = none) (hne : a ≠ I) (hw : w.params.followText "set-order" = true) (hd : o.data = .set es ep t) (hf : t.fits es.size = true) :
    SetGo prog w A a I [] es.size ((pickOrder (w.params.setOrder a ep) es).toList.map (·.2)) (fun i h => h.get? I = some (setItO (.int 0 0) a i es.size ep) ∧ h.get? a = some o) where
  walk := {
    sub := fun b hb => by simp at hb; simp [hb]
    frame := fun _ _ _ st hk => ⟨hk I (by simp) _ st.1, hk a (by simp) _ st.2⟩
    item := fun i s Q E hi st hQ => by
      have hi' : i < (pickOrder (w.params.setOrder a ep) es).size := by rw [len_pick]; exact hi
      refine seti_item (nx := 0) (v := (pickOrder (w.params.setOrder a ep) es)[i].2) st.1 st.2 hd hf (fun E R hR => next_text hw st.2 hd hf ?_) fun h' h1 h2 => hQ _ h' s.toks ?_ ⟨h1, (h2.2 a hne).trans st.2⟩ fun b o hb e => (h2.2 b (fun z => hb (by simp [z]))).trans e
      · rw [Array.getElem?_eq_getElem hi']
        exact hR
      · simp [hi']
    done := fun s Q E st hQ => seti_end hh st.1 st.2 hd hf (fun E R hR => next_text hw st.2 hd hf (by
      rw [Array.getElem?_eq_none (by rw [len_pick]; exact Nat.le_refl _)]
      exact hR)) fun h' he => hQ h' s.toks fun b o hb e => he b o (fun z => hb (by simp [z])) e
    self := fun _ _ _ _ st hQ => seti_self st.1 hQ }
theorem go_plain (hh : A.handled = none) (hne : a ≠ I) (hw : w.params.followText "set-order" = false) (hp : (!t.plain && decide (es.size > 1)) = false) (hl : t.led = true) (hz : t.place.size = es.size) (hb : ∀ i x, t.place[i]? = some x → SetTable.below t.place (x + 1) = i + 1) (hd : o.data = .set es ep t) (hf : t.fits es.size = true) :
    SetGo prog w A a I [] es.size (es.toList.map (·.2)) (fun i h => ∃ slot, h.get? I = some (setItO (.int (slot : Nat) 0) a i es.size ep) ∧ SetTable.below t.place slot = i ∧ h.get? a = some o) where
  walk := {
    sub := fun b hb => by simp at hb; simp [hb]
    frame := fun _ _ _ ⟨sl, s1, s2, s3⟩ hk => ⟨sl, hk I (by simp) _ s1, s2, hk a (by simp) _ s3⟩
    item := fun i s Q E hi ⟨sl, s1, s2, s3⟩ hQ => by
      have hj : t.place[i]? = some (t.place[i]'(by omega)) := Array.getElem?_eq_getElem (by omega)
      refine seti_item (slot := sl) (nx := t.place[i]'(by omega) + 1) (v := es[i].2) s1 s3 hd hf (fun E R hR => next_plain hw hp hl s3 hd hf ?_) fun h' h1 h2 => hQ _ h' s.toks ?_ ⟨_, h1, hb i _ hj, (h2.2 a hne).trans s3⟩ fun b o hb e => (h2.2 b (fun z => hb (by simp [z]))).trans e
      · rw [s2, Array.getElem?_eq_getElem hi, hj]
        exact hR
      · simp [hi]
    done := fun s Q E ⟨sl, s1, s2, s3⟩ hQ => seti_end (slot := sl) hh s1 s3 hd hf (fun E R hR => next_plain hw hp hl s3 hd hf (by
      rw [s2, Array.getElem?_eq_none (Nat.le_refl _)]
      exact hR)) fun h' he => hQ h' s.toks fun b o hb e => he b o (fun z => hb (by simp [z])) e
    self := fun _ _ _ _ ⟨sl, s1, s2, s3⟩ hQ => seti_self s1 hQ }
theorem go_drawn {T : Addr} {ks : List Nat} (hh : A.handled = none) (hne : a ≠ I) (hnT : T ≠ I) (hk : ks.Perm (List.range es.size)) (hd : o.data = .set es ep t) (hf : t.fits es.size = true) :
    SetGo prog w A a I [T] es.size (ks.map fun k => ((es[k]?).map (·.2)).getD .none) (fun i h => h.get? I = some (setItO (.ref T) a i es.size ep) ∧ h.get? T = some { cls := .type "tuple", data := .seq (ks.map fun (k : Nat) => rawInt (k : Int)).toArray } ∧ h.get? a = some o) where
  walk := {
    sub := fun b hb => by simp at hb; simp [hb]
    frame := fun _ _ _ ⟨s1, s2, s3⟩ hk => ⟨hk I (by simp) _ s1, hk T (by simp) _ s2, hk a (by simp) _ s3⟩
    item := fun i s Q E hi ⟨s1, s2, s3⟩ hQ => by
      have hl : ks.length = es.size := by rw [hk.length_eq, List.length_range]
      have e1 : ks[i]? = some (ks[i]'(by omega)) := List.getElem?_eq_getElem (by omega)
      have hm : ks[i]'(by omega) < es.size := List.mem_range.mp (hk.mem_iff.mp (List.getElem_mem _))
      have e2 : es[ks[i]'(by omega)]? = some (es[ks[i]'(by omega)].1, es[ks[i]'(by omega)].2) := Array.getElem?_eq_getElem hm
      refine seti_itemT s1 s2 s3 hd hf e1 e2 fun h' h1 h2 => hQ _ h' s.toks ?_ ⟨h1, (h2.2 T hnT).trans s2, (h2.2 a hne).trans s3⟩ fun b o hb e => (h2.2 b (fun z => hb (by simp [z]))).trans e
      rw [List.getElem?_map, e1, Option.map_some, e2]
      rfl
    done := fun s Q E ⟨s1, s2, s3⟩ hQ => seti_endT hh s1 s2 s3 hd hf (by rw [hk.length_eq, List.length_range]; exact Nat.le_refl _) fun h' he => hQ h' s.toks fun b o hb e => he b o (fun z => hb (by simp [z])) e
    self := fun _ _ _ _ ⟨s1, s2, s3⟩ hQ => seti_self s1 hQ }
theorem range_vals (es : Array (Int × Value)) : (List.range es.size).map (fun k => ((es[k]?).map (·.2)).getD .none) = es.toList.map (·.2) := by
  refine List.ext_getElem (by simp) fun i h1 h2 => ?_
  have hi : i < es.size := by simpa using h1
  simp [hi]
theorem iter_set {Q : Value → Shared → Prop} (hh : A.handled = none) (ho : s.heap.get? a = some o) (hex : o.ExactSet) (hd : o.data = .set es ep t) (hf : t.fits es.size = true) (hz : t.place.size = es.size) (hsz : es.size ≤ sizeLine) (hl : t.led = !w.params.followText "set-order")
    (hb0 : SetTable.below t.place 0 = 0) (hb : ∀ i x, t.place[i]? = some x → SetTable.below t.place (x + 1) = i + 1)
    (hQ : ∀ (h1 : Heap) d I ts vs St, (∀ b o, s.heap.get? b = some o → h1.get? b = some o) → s.heap.objs.size ≤ I → (∀ b ∈ ts, s.heap.objs.size ≤ b) → vs.Perm (es.toList.map (·.2)) → SetGo prog w A a I ts es.size vs St → St 0 h1 → Q (.ref I) { s with heap := h1, drawn := d }) :
    wpAny (model prog w) A (pyIter (.ref a)) Q E s := by
  have ty : s.TypeIs (.ref a) "set" := ⟨o, ho, hex.1⟩
  have la : a < s.heap.objs.size := Heap.lt_size ho
  refine wpAny_pyIter_slot ty F.slot_set_iter (wpAny_call_entry F.slot_set_iter ty entry_set_iter ?_ (F.args_set_iter_1 _))
  unfold Builtin.«frozenset.__iter__» Builtin.Frozenset.slot0 slotArgs
  simp only [List.isEmpty_nil, Bool.not_true, Bool.false_eq_true, ↓reduceIte, bind_assoc, List.length_nil, bne_self_eq_false]
  unfold Builtin.Frozenset.addrOf Builtin.Frozenset.sizeOf
  refine wpAny_bind (wpAny_pure ?_)
  try dsimp only
  refine wpAny_bind (wpAny_pure ?_)
  refine wpAny_bind (wpAny_bind (wpAny_setEntries_of ho hd hf (wpAny_pure ?_)))
  unfold setDrawn setsByText
  refine wpAny_bind (wpAny_bind (wpAny_setState_of ho hd hf ?_))
  dsimp only
  refine wpAny_bind (wpAny_bind (wpAny_askSetting (wpAny_pure ?_)))
  refine wpAny_pure ?_
  show wpAny _ _ (if (!w.params.followText "set-order" && (!t.plain && decide (es.size > 1))) = true then _ else _) _ _ _
  have fin : ∀ (fst : Value) (s1 : Shared), s1.heap.get? a = some o → (Q (.ref s1.heap.objs.size) { s1 with heap := s1.heap.push (setItO fst a 0 es.size ep) }) →
      wpAny (model prog w) A.in1 (do let e ← setEpoch a; let r ← newFields "set_iterator" [fst, rawInt 0, .ref a, rawInt es.size, rawInt e]; ret r) (fun fin s' => ∃ v, fin = .done (.ret v) ∧ ∃ T' r, s'.TypeIs v T' ∧ typeLookup (.type T') "__next__" = pure (some r) ∧ Q v s') E s1 := by
    intro fst s1 h1 hq
    unfold setEpoch
    refine wpAny_bind (wpAny_bind (wpAny_setState_of h1 hd hf (wpAny_pure ?_)))
    unfold newFields
    refine wpAny_bind (wpAny_newObj_type ?_)
    exact wpAny_pure ⟨_, rfl, "set_iterator", _, ⟨_, Heap.get?_push_size _ rfl, rfl⟩, slot_seti_next.lookup, hq⟩
  have ne : a ≠ s.heap.objs.size := Nat.ne_of_lt la
  cases hw : w.params.followText "set-order" with
  | true =>
    rw [if_neg (by simp)]
    refine wpAny_bind (wpAny_pure (fin _ s ho ?_))
    exact hQ (s.heap.push (setItO (.int 0 0) a 0 es.size ep)) s.drawn s.heap.objs.size [] _ _ (fun b o e => Heap.get?_push_of_some _ e) (Nat.le_refl _) (fun b hb => by simp at hb) ((pick_perm _ _).map _) (go_text hh ne hw hd hf) ⟨Heap.get?_push_size _ rfl, Heap.get?_push_of_some _ ho⟩
  | false =>
    rw [hw] at hl
    cases hp : (!t.plain && decide (es.size > 1)) with
    | false =>
      rw [if_neg (by simp)]
      refine wpAny_bind (wpAny_pure (fin _ s ho ?_))
      exact hQ (s.heap.push (setItO (.int 0 0) a 0 es.size ep)) s.drawn s.heap.objs.size [] _ _ (fun b o e => Heap.get?_push_of_some _ e) (Nat.le_refl _) (fun b hb => by simp at hb) (List.Perm.refl _) (go_plain hh ne hw hp hl hz hb hd hf) ⟨0, Heap.get?_push_size _ rfl, hb0, Heap.get?_push_of_some _ ho⟩
    | true =>
      rw [if_pos (by simp)]
      refine wpAny_bind (draw_order es.size (List.range es.size) s _ (by simp) fun ks d pm => ?_)
      refine wpAny_bind (wpAny_newTuple ?_ (by rw [List.length_map, pm.length_eq, List.length_range]; exact hsz))
      have eT : (s.heap.push { cls := .type "tuple", data := .seq (ks.map fun (k : Nat) => rawInt (k : Int)).toArray }).get? s.heap.objs.size = some { cls := .type "tuple", data := .seq (ks.map fun (k : Nat) => rawInt (k : Int)).toArray } := Heap.get?_push_size _ rfl
      refine fin _ { s with heap := s.heap.push { cls := .type "tuple", data := .seq (ks.map fun (k : Nat) => rawInt (k : Int)).toArray }, drawn := d } (Heap.get?_push_of_some _ ho) ?_
      have sz : (s.heap.push { cls := .type "tuple", data := .seq (ks.map fun (k : Nat) => rawInt (k : Int)).toArray }).objs.size = s.heap.objs.size + 1 := size_push' ..
      refine hQ _ d _ [s.heap.objs.size] _ _ (fun b o e => Heap.get?_push_of_some _ (Heap.get?_push_of_some _ e)) (by rw [sz]; exact Nat.le_succ _) (fun b hb => by simp at hb; omega) ?_ (go_drawn (T := s.heap.objs.size) hh (by rw [sz]; exact Nat.ne_of_lt (Nat.lt_succ_of_lt la)) (by rw [sz]; exact Nat.ne_of_lt (Nat.lt_succ_self _)) pm hd hf) ⟨Heap.get?_push_size _ rfl, Heap.get?_push_of_some _ eT, Heap.get?_push_of_some _ (Heap.get?_push_of_some _ ho)⟩
      rw [← range_vals]
      exact pm.map _
theorem hint_set {Q : Bool → Shared → Prop} (hT : s.TypeIs (.ref a) "set") (h : Q false s) : wpAny (model prog w) A (Builtin.List.listLengthHint (.ref a)) Q E s := by
  unfold Builtin.List.listLengthHint
  refine wpAny_bind (wpAny_specialOf hT F.slot_set_len.lookup ?_)
  generalize hid : ("set.__len__" : String) = id0
  wp_delta
  rw [show splitId id0 = some ("set", "__len__") from by subst hid; decide +kernel]
  subst hid
  refine wpAny_bind (wpAny_isInstance (T := "set") (b := true) hT (by rw [isSubtype_type]; kernel_rfl) ?_)
  refine wpAny_ite_split (fun hab => absurd hab (by decide)) (fun _ => ?_)
  refine wpAny_ite_split (fun _ => ?_) (fun hab => absurd (by decide +kernel) hab)
  refine wpAny_bind (wpAny_typeOf hT ?_)
  exact wpAny_pure h
theorem ext_set {R : Result → Shared → Prop} (hh : A.handled = none) (ho : s.heap.get? a = some o) (hex : o.ExactSet) (hd : o.data = .set es ep t) (hf : t.fits es.size = true) (hz : t.place.size = es.size) (hsz : es.size ≤ sizeLine) (hl : t.led = !w.params.followText "set-order")
    (hb0 : SetTable.below t.place 0 = 0) (hb : ∀ i x, t.place[i]? = some x → SetTable.below t.place (x + 1) = i + 1) (S : Addr) (hSa : S ≠ a) (res : Value) (c₀ : Nat) (hS : s.heap.get? S = some { cls := .type "list", data := .seq #[] c₀ })
    (hR : ∀ h' tk d acc' c' (vs : List Value), vs.Perm (es.toList.map (·.2)) → (∀ b o, b ≠ S → s.heap.get? b = some o → h'.get? b = some o) → h'.get? S = some { cls := .type "list", dict := none, data := .seq acc' c', slots := #[] } → ItemsOf (fun i v => vs[i]? = some v) acc' es.size → R (.ok (.ret res)) { s with heap := h', toks := tk, drawn := d }) :
    wpAny (model prog w) A.in1 (Builtin.List.listExtendWith (.ref S) (.ref a) res)
      (fun fin s' => match fin with | .done f => R (.ok f) s' | .again c' => c'.quiet = true ∧ codeAny (model prog w) A c' R s') (fun e s' => R (.error e) s') s := by
  have ty : s.TypeIs (.ref a) "set" := ⟨o, ho, hex.1⟩
  have lS := Heap.lt_size hS
  unfold Builtin.List.listExtendWith
  refine wpAny_bind (wpAny_typeOf (T := "set") ty ?_)
  have h1 : Builtin.List.listSameRef (.ref S) (.ref a) = false := by simp [Builtin.List.listSameRef, hSa]
  have h2 : (Value.type "set" == Value.type "list") = false := by decide
  have h3 : (Value.type "set" == Value.type "tuple") = false := by decide
  simp only [h1, h2, h3, Bool.or_false, Bool.false_eq_true, if_false]
  refine wpAny_bind (iter_set (A := A.in1) hh ho hex hd hf hz hsz hl hb0 hb fun h1 d I ts vs St k1 hI hts pm G st => ?_)
  obtain ⟨W⟩ := G
  have hSf : S ∉ I :: a :: ts := by
    simp only [List.mem_cons, not_or]
    exact ⟨Nat.ne_of_lt (Nat.lt_of_lt_of_le lS hI), hSa, fun z => absurd (Nat.lt_of_lt_of_le lS (hts _ z)) (Nat.lt_irrefl _)⟩
  have key : ∀ (h : Heap) (c₁ tk : Nat), St 0 h → (∀ b o, b ≠ S → s.heap.get? b = some o → h.get? b = some o) →
      h.get? S = some { cls := .type "list", data := .seq #[] c₁ } → codeAny (model prog w) A (.builtin "list.extend.loop" ⟨[.ref S, .ref I, res], []⟩) R { s with heap := h, toks := tk, drawn := d } := by
    intro h c₁ tk hst hk hS₁
    refine codeAny_extend_loopS W.toS hsz S hSf res es.size 0 _ #[] c₁ rfl (Nat.zero_le _) hst hS₁ (ItemsOf.nil _) fun s' acc' c' hm hS' hacc => ?_
    rw [Moved.eq_with hm]
    refine hR s'.heap s'.toks d acc' c' vs pm (fun b o hb e => hm.heap b o (fun hmem => ?_) (hk b o hb e)) hS' hacc
    rcases List.mem_cons.mp hmem with e' | hmem
    · exact hb e'
    · have := Heap.lt_size e
      have e2 : b = I := List.mem_singleton.mp hmem
      exact absurd (Nat.lt_of_lt_of_le this hI) (by rw [e2]; exact Nat.lt_irrefl _)
  have hS₁ := k1 _ _ hS
  refine wpAny_bind (wpAny_holding (hint_set (a := a) ⟨o, k1 _ _ ho, hex.1⟩ ?_))
  refine wpAny_ite_split (fun _ => ?_) (fun _ => wpAny_pure ⟨plainId_quiet PySem.F.plain_extend_loop _, key _ c₀ _ st (fun b o _ e => k1 _ _ e) hS₁⟩)
  refine wpAny_bind (wpAny_rule ?_)
  refine wpAny_bind ?_
  show wpAny _ _ (updateSeq S (·.push .none) >>= fun _ => updateSeq S (·.pop)) _ _ _
  refine wpAny_bind (wpAny_updateSeq hS₁ rfl ?_)
  have hS₂ := Heap.get?_update_self (Obj.mapSeq (·.push Value.none)) hS₁ rfl
  refine wpAny_updateSeq (hz := by seq_fits) hS₂ rfl ?_
  have hS₃ := Heap.get?_update_self (Obj.mapSeq (·.pop)) hS₂ rfl
  refine wpAny_pure ⟨plainId_quiet PySem.F.plain_extend_loop _, key _ _ _ ?_ (fun b o hb e => ?_) hS₃⟩
  · refine W.frame 0 _ _ st fun b hb o e => ?_
    have hbS : b ≠ S := fun h => hSf (h ▸ hb)
    exact (Heap.get?_update_other _ _ (Ne.symm hbS)).trans ((Heap.get?_update_other _ _ (Ne.symm hbS)).trans e)
  · exact (Heap.get?_update_other _ _ (Ne.symm hb)).trans ((Heap.get?_update_other _ _ (Ne.symm hb)).trans (k1 _ _ e))
theorem collect_set {R : List Value → Shared → Prop} (hh : A.handled = none) (ho : s.heap.get? a = some o) (hex : o.ExactSet) (hd : o.data = .set es ep t) (hf : t.fits es.size = true) (hz : t.place.size = es.size) (hsz : es.size ≤ sizeLine) (hl : t.led = !w.params.followText "set-order")
    (hb0 : SetTable.below t.place 0 = 0) (hb : ∀ i x, t.place[i]? = some x → SetTable.below t.place (x + 1) = i + 1)
    (h : ∀ (h' : Heap) (tk : Nat) d (vs : List Value), (∀ b o, s.heap.get? b = some o → h'.get? b = some o) → vs.Perm (es.toList.map (·.2)) → R vs { s with heap := h', toks := tk, drawn := d }) :
    wpAny (model prog w) A (collect (.ref a)) R E s := by
  have hlt := Heap.lt_size ho
  unfold collect
  refine wpAny_bind (wpAny_runValue (codeAny_builtin entry_proto_collect' ?_))
  rw [Around.under_plainId PySem.F.plain_proto_collect _]
  show wpAny _ A.in1 (newList [] >>= fun l => again (.builtin "list.__iadd__" ⟨[l, .ref a], []⟩)) _ _ s
  refine wpAny_bind (wpAny_newObj_type ?_)
  refine wpAny_pure ⟨plainId_quiet PySem.F.plain_list_iadd _, codeAny_builtin entry_list_iadd' ?_⟩
  rw [Around.under_plainId PySem.F.plain_list_iadd _]
  have hS₁ : (s.heap.push { cls := .type "list", data := .seq ([] : List Value).toArray }).get? s.heap.objs.size = some { cls := .type "list", data := .seq #[] } := Heap.get?_push_size _ rfl
  show wpAny _ A.in1 (Builtin.List.listExtendWith (.ref s.heap.objs.size) (.ref a) (.ref s.heap.objs.size)) _ _ _
  have key := ext_set (prog := prog) (w := w) (A := A) (s := { s with heap := s.heap.push { cls := .type "list", data := .seq ([] : List Value).toArray } })
    (R := fun (q : Result) (s' : Shared) => ∃ (h' : Heap) (tk : Nat) (d : Drawn) (acc' : Array Value) (c' : Nat) (vs : List Value), q = .ok (.ret (.ref s.heap.objs.size)) ∧ s' = { s with heap := h', toks := tk, drawn := d } ∧
      (∀ b o, s.heap.get? b = some o → h'.get? b = some o) ∧ h'.get? s.heap.objs.size = some { cls := .type "list", dict := none, data := .seq acc' c', slots := #[] } ∧ vs.Perm (es.toList.map (·.2)) ∧ acc'.toList = vs)
    hh (Heap.get?_push_of_some _ ho) hex hd hf hz hsz hl hb0 hb s.heap.objs.size (Nat.ne_of_gt hlt) (.ref s.heap.objs.size) 0 hS₁
    (fun h' tk d acc' c' vs pm hk hS' hacc => ⟨h', tk, d, acc', c', vs, rfl, rfl, fun b o e => hk b o (Nat.ne_of_lt (Heap.lt_size e)) (Heap.get?_push_of_some _ e), hS', pm, by
      have hlen : vs.length = es.size := by rw [pm.length_eq]; simp
      refine List.ext_getElem? fun i => ?_
      by_cases hi : i < acc'.size
      · have e := hacc.2 i acc'[i] (by simp [hi])
        rw [e, Array.getElem?_toList]
        simp [hi]
      · rw [List.getElem?_eq_none (by simpa using hi), List.getElem?_eq_none (by rw [hlen, ← hacc.1]; omega)]⟩)
  refine wpAny_mono key (fun fin s' x => ?_) fun e s' x => ?_
  · cases fin with
    | done f =>
      obtain ⟨h', tk, d, acc', c', vs, e, rfl, hk, hS', pm, rfl⟩ := x
      cases e
      show wpAny _ A (load s.heap.objs.size >>= _) _ _ _
      refine wpAny_bind (wpAny_load hS' ?_)
      exact wpAny_pure (h h' tk d _ hk pm)
    | again c₁ =>
      refine ⟨x.1, codeAny_mono x.2 fun q s₂ y => ?_⟩
      obtain ⟨h', tk, d, acc', c', vs, rfl, rfl, hk, hS', pm, rfl⟩ := y
      show wpAny _ A (load s.heap.objs.size >>= _) _ _ _
      refine wpAny_bind (wpAny_load hS' ?_)
      exact wpAny_pure (h h' tk d _ hk pm)
  · obtain ⟨_, _, _, _, _, _, e', _⟩ := x
    cases e'
end
end L2

namespace L2
open PySem PySem.Spec PyProof.Rows
section
variable {prog : Program} {w : World} {A : Around} {E : Value → Shared → Prop} {s : Shared}
theorem ints_nOf {es : List (Int × Value)} (h : ElemsOf (intKind prog w) es) {vs : List Value} (pm : vs.Perm (es.map (·.2))) : IntsAre vs (vs.map nOf) := by
  refine ints_at (by simp) fun j v e => ?_
  have hm : v ∈ es.map (·.2) := pm.mem_iff.mp (List.mem_of_getElem? e)
  obtain ⟨x, hx, rfl⟩ := List.mem_map.mp hm
  obtain ⟨t, et⟩ := elem_int h hx
  exact ⟨nOf x.2, t, by rw [List.getElem?_map, e]; rfl, et⟩
theorem fits_size {t : SetTable} {n : Nat} (h : t.fits n = true) : t.place.size = n := by
  unfold SetTable.fits at h
  simp at h
  omega
theorem coll_set {a : Addr} {ms : List Int} (hh : A.handled = none) (hS : SetI prog w s.heap a ms) :
    ∀ (E : Value → Shared → Prop) (R : List Value → Shared → Prop), (∀ h' tk d vs ns, (∀ b o, s.heap.get? b = some o → h'.get? b = some o) → IntsAre vs ns → ns.Perm ms → R vs { s with heap := h', toks := tk, drawn := d }) → wpAny (model prog w) A (collect (.ref a)) R E s := by
  obtain ⟨o, es, ep, t, ho, hex, hd, hel, rfl, nd, hb, hf, ri, ld⟩ := hS
  intro E R h
  refine collect_set hh ho hex hd hf (fits_size hf) (Nat.le_trans (Nat.le_of_lt hb) (by decide)) ld (below_zero ri) (fun i x e => below_next ri e) fun h' tk d vs k pm => h h' tk d vs (vs.map nOf) k (ints_nOf hel pm) ?_
  have := pm.map nOf
  rw [List.map_map] at this
  exact this
theorem sorted_set {a : Addr} {ms : List Int} {Q : Value → Shared → Prop} (hh : A.in1.handled = none) (hS : SetI prog w s.heap a ms) (h64 : ms.length < 64)
    (h : ∀ (h1 h' : Heap) tk dr D vs' ns' e, (∀ b o, s.heap.get? b = some o → h1.get? b = some o) → (∀ b o, h1.get? b = some o → h'.get? b = some o) → h1.objs.size ≤ D → h'.get? D = some (seqObj "list" vs'.toArray e) → IntsAre vs' ns' → ns'.Perm ms → ns'.Pairwise (· ≤ ·) → Q (.ref D) { s with heap := h', toks := tk, drawn := dr }) :
    wpAny (model prog w) A (call (.builtin "sorted") [.ref a]) Q E s := by
  refine Calls.call_function_entry kind_sorted plain_sorted entry_sorted (args_sorted1 _) ?_
  unfold Builtin.«sorted»
  refine wpAny_bind (m := checkCount "sorted" 1 1 _) (wpAny_pure ?_)
  refine wpAny_bind (coll_set hh hS _ _ fun h1 tk dr vs ns keep hI pm => ?_)
  have lv : vs.length < 64 := by rw [hI.length, pm.length_eq]; exact h64
  refine wpAny_bind (wpAny_newList ?_ (Nat.le_trans (Nat.le_of_lt lv) (by decide)))
  have hoL : (h1.push (seqObj "list" vs.toArray 0)).get? h1.objs.size = some (seqObj "list" vs.toArray 0) := Heap.get?_push_size _ rfl
  refine wpAny_bind (wpAny_holding (wpAny_call_entry slot_list_sort ⟨_, hoL, rfl⟩ entry_list_sort (list_sort_tree (s := { s with heap := h1.push (seqObj "list" vs.toArray 0), toks := tk, drawn := dr }) hoL hI lv fun out ns' a1 a2 a3 => ⟨_, rfl, ?_⟩) (args_list_sort _)))
  obtain ⟨e, he⟩ := sortedHeap_at (out := out) hoL
  refine wpAny_pure ⟨_, rfl, h h1 _ tk dr h1.objs.size out.toList ns' e keep (fun b o q => ?_) (Nat.le_refl _) (by simpa using he) a1 (a2.trans pm) a3⟩
  have lt := Heap.lt_size q
  rw [sortedHeap_old (Nat.ne_of_lt lt) (by rw [size_push']; exact Nat.lt_succ_of_lt lt)]
  exact Heap.get?_push_of_some _ q
end
def Few (ns : List Int) : Prop := ∀ ms : List Int, ms.Nodup → (∀ j ∈ ms, j ∈ ns) → ms.length < 64
def rSortSet (K : PySem.W.Frag) (x : V) (H : Hp) (Q : VK) : Prop := ∃ (a : Addr) (ns : List Int), x = .ref a ∧ SqL K H a (ns.map V.int) ∧ ns.length ≤ 1000 ∧ Few ns ∧ ∀ (ms : List Int) p, ms.Pairwise (· < ·) → (∀ j, j ∈ ms ↔ j ∈ ns) → H p = none → Q (.ref p) (upd H p (.lst (ms.map V.int)))
def tSortSet (K : PySem.W.Frag) (te : TE) : TE := fun σ H Q => te σ H fun x H1 => rSortSet K x H1 Q
theorem lt_of_le_nd : ∀ {ms : List Int}, ms.Pairwise (· ≤ ·) → ms.Nodup → ms.Pairwise (· < ·)
  | [], _, _ => .nil
  | x :: xs, h, n => by
    rw [List.pairwise_cons] at h
    rw [List.nodup_cons] at n
    refine List.pairwise_cons.mpr ⟨fun y hy => ?_, lt_of_le_nd h.2 n.2⟩
    have h1 := h.1 y hy
    have : x ≠ y := fun z => n.1 (z ▸ hy)
    omega
section
variable {X : Cx} {e : Expr} {te : TE} {p p2 pos pos2 : Pos}
theorem psortSet (hm : X.mg "sorted" = none) (hm2 : X.mg "set" = none) (ha : PE X e te) (hc : X.calm = true := by rfl) (hg : Gl X "sorted" := by rfl) (hg2 : Gl X "set" := by rfl)
    (he : starEach (e :: []) X.env = (false, eval e X.env) :: starEach [] X.env := by rfl) (hpl : (backTo pos2 (starEach [] X.env)).any (·.1) = false := by rfl)
    (he2 : starEach (Expr.Call (.Name "set" p2) [e] [] pos2 :: []) X.env = (false, eval (Expr.Call (.Name "set" p2) [e] [] pos2) X.env) :: starEach [] X.env := by rfl) (hpl2 : (backTo pos (starEach [] X.env)).any (·.1) = false := by rfl) :
    PE X (.Call (.Name "sorted" p) [.Call (.Name "set" p2) [e] [] pos2] [] pos) (tSortSet X.K te) := by
  intro pins s σ H Q I h
  have inner : wpAny (model X.prog X.w) X.A (eval (Expr.Call (.Name "set" p2) [e] [] pos2) X.env) (fun u s' => ∃ (b : Addr) (a : Addr) (ms ns : List Int) (H1 : Hp), u = .ref b ∧ Inv X pins σ H1 s' ∧ SetI X.prog X.w s'.heap b ms ∧ (∀ j, j ∈ ms ↔ j ∈ ns) ∧ SqL X.K H1 a (ns.map V.int) ∧ Few ns ∧
      (∀ (ms : List Int) p, ms.Pairwise (· < ·) → (∀ j, j ∈ ms ↔ j ∈ ns) → H1 p = none → Q (.ref p) (upd H1 p (.lst (ms.map V.int))))) X.xe s := by
    refine wpAny_Call_Name_kw (ld_blt I hg2 hm2 PyProof.Rows.Boot.«set» ?_)
    refine PyProof.Rows.callWith_type1 (thn (pa_cons ha pa_nil he pos2 pins s σ H (fun vs H1 => match vs with | [x] => rSortSet X.K x H1 Q | _ => False) I h) fun us s1 ⟨vs, H1, I1, r1, q1⟩ => ?_) he hpl
    · obtain ⟨x, rfl⟩ : ∃ x, vs = [x] := by
        match vs, q1 with
        | [x], _ => exact ⟨x, rfl⟩
      obtain ⟨u, rfl, rx⟩ := vals1 r1
      obtain ⟨a, ns, rfl, hl, hn, hf, q⟩ := q1
      cases rx
      obtain ⟨its, vr, pl, hz⟩ := I1.list hl
      refine call_setL (I1.ok.hd hc) pl.isList (intsAre_of vr) ?_ fun h' tk ms hS hj hk => ?_
      · rw [← vr.length, List.length_map]
        exact Nat.lt_of_le_of_lt (Nat.succ_le_succ hn) (by decide)
      · have hk' : ∀ b o, s1.heap.get? b = some o → h'.get? b = some o := fun b o e => hk b o (Heap.lt_size e) e
        exact ⟨_, a, ms, ns, H1, rfl, I1.kept hk', hS, hj, hl, hf, q⟩
  refine wpAny_Call_Name_kw (ld_blt I hg hm PyProof.Rows.boot_sorted ?_)
  refine PyProof.Rows.callWith_builtin1 (thn (Q := fun us s' => ∃ (b : Addr) (a : Addr) (ms ns : List Int) (H1 : Hp), us = [.ref b] ∧ Inv X pins σ H1 s' ∧ SetI X.prog X.w s'.heap b ms ∧ (∀ j, j ∈ ms ↔ j ∈ ns) ∧ SqL X.K H1 a (ns.map V.int) ∧ Few ns ∧
      (∀ (ms : List Int) p, ms.Pairwise (· < ·) → (∀ j, j ∈ ms ↔ j ∈ ns) → H1 p = none → Q (.ref p) (upd H1 p (.lst (ms.map V.int))))) ?_ fun us s1 ⟨b, a, ms, ns, H1, e1, I1, hS, hj, hl, hf, q⟩ => ?_) he2 hpl2
  · rw [he2]
    show wpAny _ _ (spliced ((false, eval _ X.env) :: backTo pos (starEach [] X.env))) _ _ s
    refine Calls.spliced_cons (thn inner fun u s1 ⟨b, a, ms, ns, H1, e1, rest⟩ => ?_)
    subst e1
    exact Calls.spliced_nil ⟨b, a, ms, ns, H1, rfl, rest⟩
  · subst e1
    have ndm : ms.Nodup := by
      obtain ⟨o, es, ep, t, ho, hex, hd, hel, rfl, nd, _⟩ := hS
      exact nd
    refine sorted_set (I.ok.hd hc) hS (hf ms ndm fun j h => (hj j).mp h) fun h1 h' tk dr D vs' ns' e k1 k2 hD g ia pm od => ?_
    obtain ⟨f, I'⟩ := sort_end (tk := tk) (dr := dr) I1 k1 k2 hD g ia (by rw [pm.length_eq]; exact hf ms ndm fun j h => (hj j).mp h)
    exact ⟨.ref D, _, I', rfl, q ns' D (lt_of_le_nd od (pm.nodup_iff.mpr ndm)) (fun j => by rw [pm.mem_iff, hj]) f⟩
end
end L2

namespace SpM
abbrev Stp := Bool × Int
def goQ (s : Stp) : Int := if s.1 then s.2 + 1 else s.2
def comeS (s : Stp) : List Int := if s.1 then [s.2 + 2] else if s.2 = 0 then [1] else if s.2 = 1 then [2, 0] else [s.2 + 1, s.2 - 2]
def aft (hs : List Int) (s : Stp) : List Int := ((hs.erase s.2).erase (goQ s)) ++ comeS s
def can (hs : List Int) (s : Stp) : Prop := s.2 ∈ hs ∧ goQ s ∈ hs.erase s.2
def waysAt (hs : List Int) (p : Int) : List Stp := (if 2 ≤ hs.count p then [(false, p)] else []) ++ (if p + 1 ∈ hs then [(true, p)] else [])
def waysOf (hs ms : List Int) : List Stp := ms.flatMap (waysAt hs)
def IsWays (hs : List Int) (ws : List Stp) : Prop := ∃ ms : List Int, ms.Pairwise (· < ·) ∧ (∀ j, j ∈ ms ↔ j ∈ hs) ∧ ws = waysOf hs ms
theorem rise_unique : ∀ {a b : List Int}, a.Pairwise (· < ·) → b.Pairwise (· < ·) → (∀ j, j ∈ a ↔ j ∈ b) → a = b
  | [], [], _, _, _ => rfl
  | [], y :: ys, _, _, h => absurd ((h y).mpr List.mem_cons_self) (by simp)
  | x :: xs, [], _, _, h => absurd ((h x).mp List.mem_cons_self) (by simp)
  | x :: xs, y :: ys, ha, hb, h => by
    rw [List.pairwise_cons] at ha hb
    have e : x = y := by
      have h1 := List.mem_cons.mp ((h x).mp List.mem_cons_self)
      have h2 := List.mem_cons.mp ((h y).mpr List.mem_cons_self)
      rcases h1 with h1 | h1
      · exact h1
      · rcases h2 with h2 | h2
        · exact h2.symm
        · have := hb.1 x h1
          have := ha.1 y h2
          omega
    subst e
    rw [rise_unique ha.2 hb.2 fun j => ?_]
    constructor
    · intro hj
      rcases List.mem_cons.mp ((h j).mp (List.mem_cons_of_mem _ hj)) with e | e
      · have := ha.1 j hj; omega
      · exact e
    · intro hj
      rcases List.mem_cons.mp ((h j).mpr (List.mem_cons_of_mem _ hj)) with e | e
      · have := hb.1 j hj; omega
      · exact e
theorem fall_unique : ∀ {a b : List Int}, a.Pairwise (· ≥ ·) → b.Pairwise (· ≥ ·) → a.Perm b → a = b
  | [], b, _, _, h => (h.symm.eq_nil).symm
  | x :: xs, [], _, _, h => absurd h.eq_nil (by simp)
  | x :: xs, y :: ys, ha, hb, h => by
    rw [List.pairwise_cons] at ha hb
    have e : x = y := by
      have h1 := List.mem_cons.mp (h.mem_iff.mp (List.mem_cons_self (a := x) (l := xs)))
      have h2 := List.mem_cons.mp (h.mem_iff.mpr (List.mem_cons_self (a := y) (l := ys)))
      rcases h1 with h1 | h1
      · exact h1
      · rcases h2 with h2 | h2
        · exact h2.symm
        · have := hb.1 x h1
          have := ha.1 y h2
          omega
    subst e
    rw [fall_unique ha.2 hb.2 h.cons_inv]
theorem waysAt_perm {hs hs' : List Int} (h : hs.Perm hs') (p : Int) : waysAt hs p = waysAt hs' p := by
  unfold waysAt
  rw [h.count_eq]
  simp only [h.mem_iff]
theorem IsWays.unique {hs hs' : List Int} {ws ws' : List Stp} (h : hs.Perm hs') (a : IsWays hs ws) (b : IsWays hs' ws') : ws = ws' := by
  obtain ⟨ms, h1, h2, rfl⟩ := a
  obtain ⟨ms', h1', h2', rfl⟩ := b
  have : ms = ms' := rise_unique h1 h1' fun j => by rw [h2, h2', h.mem_iff]
  subst this
  unfold waysOf
  congr 1
  funext p
  exact waysAt_perm h p
theorem IsWays.perm {hs hs' : List Int} {ws : List Stp} (h : hs.Perm hs') (a : IsWays hs ws) : IsWays hs' ws := by
  obtain ⟨ms, h1, h2, rfl⟩ := a
  refine ⟨ms, h1, fun j => by rw [h2, h.mem_iff], ?_⟩
  unfold waysOf
  congr 1
  funext p
  exact waysAt_perm h p
theorem mem_waysAt {hs : List Int} {p : Int} {s : Stp} : s ∈ waysAt hs p ↔ s.2 = p ∧ (if s.1 then p + 1 ∈ hs else 2 ≤ hs.count p) := by
  obtain ⟨b, q⟩ := s
  unfold waysAt
  rw [List.mem_append]
  cases b with
  | false =>
    constructor
    · rintro (h | h)
      · split at h
        · rename_i c
          rw [List.mem_singleton, Prod.mk.injEq] at h
          exact ⟨h.2, by simpa using c⟩
        · simp at h
      · split at h
        · simp at h
        · simp at h
    · rintro ⟨h1, h2⟩
      subst h1
      refine .inl ?_
      rw [if_pos (by simpa using h2)]
      simp
  | true =>
    constructor
    · rintro (h | h)
      · split at h
        · simp at h
        · simp at h
      · split at h
        · rename_i c
          rw [List.mem_singleton, Prod.mk.injEq] at h
          exact ⟨h.2, by simpa using c⟩
        · simp at h
    · rintro ⟨h1, h2⟩
      subst h1
      refine .inr ?_
      rw [if_pos (by simpa using h2)]
      simp
theorem mem_ways {hs : List Int} {ws : List Stp} (h : IsWays hs ws) (s : Stp) : s ∈ ws ↔ can hs s := by
  obtain ⟨ms, h1, h2, rfl⟩ := h
  unfold waysOf can goQ
  rw [List.mem_flatMap]
  obtain ⟨b, p⟩ := s
  constructor
  · rintro ⟨q, hq, hw⟩
    rw [mem_waysAt] at hw
    obtain ⟨e, hw⟩ := hw
    have e' : p = q := e
    subst e'
    have hp := (h2 p).mp hq
    refine ⟨hp, ?_⟩
    cases b with
    | false =>
      have hw' : 2 ≤ hs.count p := by simpa using hw
      show p ∈ hs.erase p
      rw [← List.count_pos_iff, List.count_erase_self]
      omega
    | true =>
      have hw' : p + 1 ∈ hs := by simpa using hw
      show p + 1 ∈ hs.erase p
      exact (List.mem_erase_of_ne (by omega)).mpr hw'
  · rintro ⟨hp, hq⟩
    refine ⟨p, (h2 p).mpr hp, ?_⟩
    rw [mem_waysAt]
    refine ⟨rfl, ?_⟩
    cases b with
    | false =>
      have hq' : p ∈ hs.erase p := hq
      rw [← List.count_pos_iff, List.count_erase_self] at hq'
      show 2 ≤ hs.count p
      omega
    | true =>
      have hq' : p + 1 ∈ hs.erase p := hq
      show p + 1 ∈ hs
      exact List.mem_of_mem_erase hq'
def wt1 (p : Int) : Int := if p = 0 then 5 else 6 + 3 * p
def wt (hs : List Int) : Int := (hs.map wt1).sum
theorem wt_nil : wt [] = 0 := rfl
theorem wt_cons (p : Int) (hs : List Int) : wt (p :: hs) = wt1 p + wt hs := by simp [wt]
theorem wt_append (a b : List Int) : wt (a ++ b) = wt a + wt b := by simp [wt]
theorem wt_perm {a b : List Int} (h : a.Perm b) : wt a = wt b := by
  induction h with
  | nil => rfl
  | cons x _ ih => rw [wt_cons, wt_cons, ih]
  | swap x y l => simp only [wt_cons]; omega
  | trans _ _ h1 h2 => exact h1.trans h2
theorem val_perm {a b : List Int} (h : a.Perm b) : val a = val b := by
  induction h with
  | nil => rfl
  | cons x _ ih => simp only [val, ih]
  | swap x y l => simp only [val]; omega
  | trans _ _ h1 h2 => exact h1.trans h2
theorem wt_erase {p : Int} {hs : List Int} (h : p ∈ hs) : wt hs = wt1 p + wt (hs.erase p) := by rw [wt_perm (List.perm_cons_erase h), wt_cons]
theorem val_erase {p : Int} {hs : List Int} (h : p ∈ hs) : val hs = mem p.toNat + val (hs.erase p) := by rw [val_perm (List.perm_cons_erase h)]; rfl
theorem wt_aft {hs : List Int} {s : Stp} (h : can hs s) (h0 : 0 ≤ s.2) : wt (aft hs s) < wt hs := by
  obtain ⟨h1, h2⟩ := h
  have e1 := wt_erase h1
  have e2 := wt_erase h2
  unfold aft
  rw [wt_append]
  obtain ⟨b, p⟩ := s
  have h0' : 0 ≤ p := h0
  dsimp only at e1 e2 ⊢
  cases b with
  | true =>
    have e3 : wt (comeS (true, p)) = wt1 (p + 2) := by simp [comeS, wt]
    have e4 : goQ (true, p) = p + 1 := rfl
    rw [e3]
    rw [e4] at e2 ⊢
    unfold wt1 at *
    split at e1 <;> split at e2 <;> split <;> omega
  | false =>
    have e4 : goQ (false, p) = p := rfl
    rw [e4] at e2 ⊢
    have e3 : wt (comeS (false, p)) < 2 * wt1 p := by
      unfold comeS
      simp only [Bool.false_eq_true, if_false]
      split
      · rename_i c
        have c' : p = 0 := c
        subst c'
        decide
      · split
        · rename_i c
          have c' : p = 1 := c
          subst c'
          decide
        · rename_i c1 c2
          simp only [wt_cons, wt_nil]
          unfold wt1
          split <;> split <;> omega
    omega
theorem val_aft {hs : List Int} {s : Stp} (h : can hs s) (h0 : 0 ≤ s.2) : val (aft hs s) = val hs := by
  obtain ⟨h1, h2⟩ := h
  have e1 := val_erase h1
  have e2 := val_erase h2
  unfold aft
  rw [val_append]
  obtain ⟨b, p⟩ := s
  have h0' : 0 ≤ p := h0
  obtain ⟨n, rfl⟩ : ∃ n : Nat, p = n := ⟨p.toNat, by omega⟩
  dsimp only at e1 e2 ⊢
  have m0 : mem 0 = 1 := by rw [mem]
  have m1 : mem 1 = 2 := by rw [mem]
  have m2 : mem 2 = 3 := by rw [mem_ss, m0, m1]; rfl
  cases b with
  | true =>
    have e3 : val (comeS (true, (n : Int))) = mem (n + 2) := by
      simp [comeS, val]
      congr 1
    have e4 : goQ (true, (n : Int)) = ((n + 1 : Nat) : Int) := rfl
    rw [e3]
    rw [e4] at e2 ⊢
    have q := mem_ss n
    simp only [Int.toNat_natCast] at e1 e2
    omega
  | false =>
    have e4 : goQ (false, (n : Int)) = n := rfl
    rw [e4] at e2 ⊢
    have e3 : val (comeS (false, (n : Int))) = 2 * mem n := by
      match n with
      | 0 => simp [comeS, val, m1, m0]
      | 1 => simp [comeS, val, m2, m0, m1]
      | k + 2 =>
        have c0 : ¬ ((k + 2 : Nat) : Int) = 0 := by omega
        have c1 : ¬ ((k + 2 : Nat) : Int) = 1 := by omega
        have q1 : (((k + 2 : Nat) : Int) + 1).toNat = k + 3 := by omega
        have q2 : (((k + 2 : Nat) : Int) - 2).toNat = k := by omega
        unfold comeS
        simp only [Bool.false_eq_true, if_false, if_neg c0, if_neg c1, val, q1, q2]
        have z1 := mem_ss (k + 1)
        have z2 := mem_ss k
        have z1' : mem (k + 3) = mem (k + 2) + mem (k + 1) := z1
        omega
    simp only [Int.toNat_natCast] at e1 e2
    omega
theorem come_ge {s : Stp} (h0 : 0 ≤ s.2) : ∀ p ∈ comeS s, 0 ≤ p ∧ p ≤ s.2 + 2 := by
  obtain ⟨b, q⟩ := s
  have h0' : 0 ≤ q := h0
  intro p hp
  unfold comeS at hp
  dsimp only at hp ⊢
  split at hp
  · simp at hp; omega
  · split at hp
    · simp at hp; omega
    · split at hp
      · simp at hp; omega
      · simp at hp; omega
theorem aft_mem {hs : List Int} {s : Stp} {p : Int} (h : p ∈ aft hs s) : p ∈ hs ∨ p ∈ comeS s := by
  rcases List.mem_append.mp h with z | z
  · exact .inl (List.mem_of_mem_erase (List.mem_of_mem_erase z))
  · exact .inr z
theorem come_len (s : Stp) : (comeS s).length ≤ 2 := by
  unfold comeS
  split
  · simp
  · split
    · simp
    · split <;> simp
theorem aft_len {hs : List Int} {s : Stp} (h : can hs s) : (aft hs s).length ≤ hs.length := by
  obtain ⟨h1, h2⟩ := h
  have e1 := List.length_erase_of_mem h1
  have e2 := List.length_erase_of_mem h2
  have e3 := come_len s
  have p1 := List.length_pos_of_mem h1
  have p2 := List.length_pos_of_mem h2
  unfold aft
  rw [List.length_append]
  omega
theorem erase_perm' {a b : List Int} (h : a.Perm b) (p : Int) : (a.erase p).Perm (b.erase p) := h.erase p
theorem aft_perm {a b : List Int} (h : a.Perm b) (s : Stp) : (aft a s).Perm (aft b s) := ((h.erase _).erase _).append_right _
theorem can_perm {a b : List Int} (h : a.Perm b) {s : Stp} (c : can a s) : can b s := ⟨h.mem_iff.mp c.1, (h.erase _).mem_iff.mp c.2⟩
def reps (hs ms : List Int) : List Int := ms.flatMap fun p => List.replicate (hs.count p) p
theorem flat_step {α : Type} {ms : List Int} {i : Nat} {y : Int} (h : ms[i]? = some y) (f : Int → List α) : (ms.take (i + 1)).flatMap f = (ms.take i).flatMap f ++ f y := by
  rw [List.take_add_one, h, List.flatMap_append]
  simp
theorem reps_step (hs : List Int) {ms : List Int} {i : Nat} {y : Int} (h : ms[i]? = some y) : reps hs (ms.take (i + 1)) = reps hs (ms.take i) ++ List.replicate (hs.count y) y := flat_step h _
theorem waysOf_step (hs : List Int) {ms : List Int} {i : Nat} {y : Int} (h : ms[i]? = some y) : waysOf hs (ms.take (i + 1)) = waysOf hs (ms.take i) ++ waysAt hs y := flat_step h _
theorem waysOf_len (hs : List Int) : ∀ ms : List Int, (waysOf hs ms).length ≤ 2 * ms.length
  | [] => by simp [waysOf]
  | p :: ms => by
    have ih := waysOf_len hs ms
    have h1 : (waysAt hs p).length ≤ 2 := by
      unfold waysAt
      split <;> split <;> simp
    show (List.flatMap (waysAt hs) (p :: ms)).length ≤ _
    rw [List.flatMap_cons, List.length_append, List.length_cons]
    have : (waysOf hs ms).length = (List.flatMap (waysAt hs) ms).length := rfl
    omega
theorem reps_count (hs : List Int) : ∀ {ms : List Int}, ms.Nodup → ∀ j, (reps hs ms).count j = if j ∈ ms then hs.count j else 0
  | [], _, j => by simp [reps]
  | p :: ms, nd, j => by
    rw [List.nodup_cons] at nd
    have ih := reps_count hs nd.2 j
    show (List.flatMap _ (p :: ms)).count j = _
    rw [List.flatMap_cons, List.count_append, List.count_replicate]
    have e : (List.flatMap (fun p => List.replicate (hs.count p) p) ms).count j = if j ∈ ms then hs.count j else 0 := ih
    rw [e]
    by_cases h : p = j
    · subst h
      rw [if_pos (beq_self_eq_true _), if_neg nd.1, if_pos List.mem_cons_self]
      rfl
    · rw [if_neg (by simpa using h)]
      have : (j ∈ p :: ms) ↔ j ∈ ms := ⟨fun z => (List.mem_cons.mp z).elim (fun z => absurd z.symm h) id, List.mem_cons_of_mem _⟩
      simp only [this]
      omega
theorem reps_perm (hs : List Int) {ms : List Int} (nd : ms.Nodup) (hm : ∀ j, j ∈ ms ↔ j ∈ hs) : (reps hs ms).Perm hs := by
  rw [List.perm_iff_count]
  intro j
  rw [reps_count hs nd]
  split
  · rfl
  · rename_i c
    exact (List.count_eq_zero.mpr fun z => c ((hm j).mpr z)).symm
theorem reps_len (hs : List Int) {ms : List Int} {i : Nat} {y : Int} (nd : ms.Nodup) (hm : ∀ j, j ∈ ms ↔ j ∈ hs) (h : ms[i]? = some y) : (reps hs (ms.take i)).length + hs.count y ≤ hs.length := by
  have e := reps_step hs h
  have l1 : (reps hs (ms.take (i + 1))).length ≤ (reps hs ms).length := by
    have : reps hs ms = reps hs (ms.take (i + 1)) ++ reps hs (ms.drop (i + 1)) := by
      unfold reps
      rw [← List.flatMap_append, List.take_append_drop]
    rw [this, List.length_append]
    omega
  rw [e, List.length_append, List.length_replicate, (reps_perm hs nd hm).length_eq] at l1
  exact l1
theorem reps_fall (hs : List Int) : ∀ {ms : List Int}, ms.Pairwise (· ≥ ·) → (reps hs ms).Pairwise (· ≥ ·)
  | [], _ => .nil
  | p :: ms, h => by
    rw [List.pairwise_cons] at h
    show (List.flatMap _ (p :: ms)).Pairwise _
    rw [List.flatMap_cons]
    refine List.pairwise_append.mpr ⟨?_, reps_fall hs h.2, fun a ha b hb => ?_⟩
    · exact List.pairwise_replicate.mpr (.inr (Int.le_refl _))
    · have e1 := List.eq_of_mem_replicate ha
      obtain ⟨q, hq, hb⟩ := List.mem_flatMap.mp hb
      have e2 := List.eq_of_mem_replicate hb
      subst e1
      subst e2
      exact h.1 _ hq
theorem ways_len {hs : List Int} {ws : List Stp} (h : IsWays hs ws) : ws.length ≤ 2 * hs.length := by
  obtain ⟨ms, h1, h2, rfl⟩ := h
  have nd : ms.Nodup := h1.imp fun h => Int.ne_of_lt h
  have := List.Nodup.length_le_of_subset nd fun j hj => (h2 j).mp hj
  have := waysOf_len hs ms
  omega
end SpM

namespace L2
open PySem PySem.Spec PyProof.Rows PySem.SeqAt
section
variable {X : Cx}
def rCount (K : PySem.W.Frag) : V → List V → Hp → VK → Prop := fun x vs H Q => ∃ (a : Addr) (ns : List Int) (k : Int), x = .ref a ∧ vs = [.int k] ∧ SqL K H a (ns.map V.int) ∧ Q (.int (ns.count k : Nat)) H
theorem mt_count : MtR X "list.count" (rCount X.K) := by
  intro pins s σ H x xs v us Q I rx rs h
  obtain ⟨a, ns, k, rfl, rfl, hS, q⟩ := h
  cases rx
  obtain ⟨u, rfl, ru⟩ := rs.one
  obtain ⟨t, rfl⟩ := ru
  obtain ⟨its, vr, pl, hz⟩ := I.list hS
  exact count_list_ints pl.isList (intsAre_of vr) ⟨.int _, H, I.tok _, ⟨_, rfl⟩, q⟩
theorem map_erIx {α β : Type} (f : α → β) : ∀ (l : List α) (j : Nat), (l.map f).eraseIdx j = (l.eraseIdx j).map f
  | [], j => by simp
  | x :: l, 0 => rfl
  | x :: l, j + 1 => by simp only [List.map_cons, List.eraseIdx_cons_succ, map_erIx f l j]
theorem ints_get {us : List Value} {ns : List Int} (h : IntsAre us ns) {j : Nat} (hj : j < us.length) : ∃ t, us[j] = .int (ns[j]'(by rw [← h.length]; exact hj)) t := by
  induction h generalizing j with
  | nil => simp at hj
  | cons a t r ih =>
    cases j with
    | zero => exact ⟨t, rfl⟩
    | succ j => exact ih (by simpa using hj)
def rRemove : V → List V → Hp → VK → Prop := fun x vs H Q => ∃ (l : Addr) (ns : List Int) (k : Int), x = .ref l ∧ vs = [.int k] ∧ H l = some (.lst (ns.map V.int)) ∧ k ∈ ns ∧ Q .non (upd H l (.lst ((ns.erase k).map V.int)))
theorem mt_remove : MtM X "list.remove" rRemove := by
  intro pins s σ H x xs v us Q I rx rs h
  obtain ⟨l, ns, k, rfl, rfl, hH, hk, q⟩ := h
  cases rx
  obtain ⟨u, rfl, ru⟩ := rs.one
  obtain ⟨t, rfl⟩ := ru
  obtain ⟨z, its, n, r, hl, e⟩ := I.lstM hH
  have ia := intsAre_of r
  have el := ia.length
  have hj : ns.idxOf k < ns.length := List.idxOf_lt_length_of_mem hk
  have hj' : ns.idxOf k < its.length := by rw [el]; exact hj
  have val : ∀ m (hm : m < its.length), isInt k its[m] = decide (ns[m]'(by rw [← el]; exact hm) = k) := fun m hm => by
    obtain ⟨t', e'⟩ := ints_get ia hm
    rw [e']
    show (_ == _) = _
    rfl
  have er : ns.erase k = ns.eraseIdx (ns.idxOf k) := List.erase_eq_eraseIdx_of_idxOf rfl
  refine call_meets F.slot_list_remove ⟨_, e, rfl⟩ F.entry_list_remove (F.args_list_remove_2 _ _) (MeetsSeq.list_remove l its.toArray n (.int k t) (isInt k) (fun y hy => eq_isInt k t ia y (by simpa using hy)) (ns.idxOf k) (by simpa using hj') ?_ ?_ (by rw [List.size_toArray]; omega)) ⟨e, ?_⟩
  · simp only [List.getElem_toArray]
    rw [val _ hj']
    simp
  · intro m hm hlt
    simp only [List.getElem_toArray]
    rw [val _ (by simpa using hm)]
    refine decide_eq_false fun z => ?_
    have := List.not_of_lt_findIdx (p := (· == k)) (xs := ns) hlt
    simp [z] at this
  · refine ⟨.non, _, I.lset (its' := its.eraseIdx (ns.idxOf k)) hH e ?_ ?_ ?_, rfl, q⟩
    · simp [hj']
    · rw [er, ← map_erIx]
      exact r.eraseIdx _
    · rw [List.length_map]
      have := List.length_erase_le (a := k) (l := ns)
      have : (ns.map V.int).length = ns.length := List.length_map _
      omega
theorem Room.units65 {k : Nat} {A : Around} (r : Room k A) : A.units + 65 < cLine := by have := r.un; omega
theorem Room.units1 {k : Nat} {A : Around} (r : Room k A) : A.units + 1 < cLine := by have := r.un; omega
def rInD (K : PySem.W.Frag) (neg : Bool) : R2 := fun x y H Q => ∃ (d : PyData) (a : Addr) (xs : List V) (ds : List PyData), Dat K H x d ∧ y = .ref a ∧ SqL K H a xs ∧ Dats K H xs ds ∧ SeqAt.shaped d = true ∧ SeqAt.shaped (.list ds) = true ∧ Q (.bl (if neg then !(ds.any fun y => PyData.eqv y d) else ds.any fun y => PyData.eqv y d)) H
theorem op_inD (hu : X.A.units + 65 < cLine) : OpR X (compareOp .In) (rInD X.K false) := by
  intro pins s σ H x y v u Q I r1 r2 h
  obtain ⟨d, a, xs, ds, h1, rfl, h2, h3, s1, s2, q⟩ := h
  obtain ⟨as, ra⟩ := h1.reads I r1
  obtain ⟨bs, rb⟩ := (Dat.lst h2 h3).reads I r2
  exact in_list_reads rb ra (SeqAt.canLay_of_shaped s2) (SeqAt.canLay_of_shaped s1) (room_in_shaped s1 hu) ⟨.bl _, H, I, rfl, q⟩
theorem op_notInD (hu : X.A.units + 65 < cLine) : OpR X (compareOp .NotIn) (rInD X.K true) := by
  intro pins s σ H x y v u Q I r1 r2 h
  obtain ⟨d, a, xs, ds, h1, rfl, h2, h3, s1, s2, q⟩ := h
  obtain ⟨as, ra⟩ := h1.reads I r1
  obtain ⟨bs, rb⟩ := (Dat.lst h2 h3).reads I r2
  exact notIn_list_reads rb ra (SeqAt.canLay_of_shaped s2) (SeqAt.canLay_of_shaped s1) (room_in_shaped s1 hu) ⟨.bl _, H, I, rfl, q⟩
end

section
def Dk (kvs : List (Key × V)) (hs : List Int) : Prop := ∃ ks : List Int, ks.Nodup ∧ (∀ j, j ∈ ks ↔ j ∈ hs) ∧ kvs = ks.map fun k => (Sum.inl k, V.int (hs.count k : Nat))
variable {kvs : List (Key × V)} {hs hs' : List Int} {p : Int}
theorem Dk.nil : Dk [] [] := ⟨[], List.nodup_nil, fun j => Iff.rfl, rfl⟩
theorem Dk.perm (h : Dk kvs hs) (pm : hs.Perm hs') : Dk kvs hs' := by
  obtain ⟨ks, h1, h2, rfl⟩ := h
  exact ⟨ks, h1, fun j => by rw [h2, pm.mem_iff], by simp only [pm.count_eq]⟩
theorem val_ks {g : Int → V} : ∀ {ks : List Int} (p : Int), valV (ks.map fun k => ((Sum.inl k : Key), g k)) (.inl p) = if p ∈ ks then some (g p) else none
  | [], p => rfl
  | k :: ks, p => by
    rw [List.map_cons]
    by_cases c : k = p
    · subst c
      rw [valV_pos rfl, if_pos List.mem_cons_self]
    · rw [valV_neg (fun z => c (Sum.inl.inj z)), val_ks p]
      have : (p ∈ k :: ks) ↔ p ∈ ks := ⟨fun z => (List.mem_cons.mp z).elim (fun z => absurd z.symm c) id, List.mem_cons_of_mem _⟩
      by_cases d : p ∈ ks
      · rw [if_pos d, if_pos (this.mpr d)]
      · rw [if_neg d, if_neg (fun z => d (this.mp z))]
theorem Dk.val (h : Dk kvs hs) (p : Int) : valV kvs (.inl p) = if p ∈ hs then some (.int (hs.count p : Nat)) else none := by
  obtain ⟨ks, h1, h2, rfl⟩ := h
  rw [val_ks]
  by_cases c : p ∈ hs
  · rw [if_pos c, if_pos ((h2 p).mpr c)]
  · rw [if_neg c, if_neg (fun z => c ((h2 p).mp z))]
theorem Dk.get (h : Dk kvs hs) (hp : p ∈ hs) : valV kvs (.inl p) = some (.int (hs.count p : Nat)) := by rw [h.val, if_pos hp]
theorem Dk.get0 (h : Dk kvs hs) (p : Int) : (valV kvs (.inl p)).getD (.int 0) = .int (hs.count p : Nat) := by
  rw [h.val]
  by_cases c : p ∈ hs
  · rw [if_pos c]; rfl
  · rw [if_neg c, List.count_eq_zero.mpr c]; rfl
theorem Dk.has (h : Dk kvs hs) (p : Int) : (valV kvs (.inl p)).isSome = decide (p ∈ hs) := by
  rw [h.val]
  by_cases c : p ∈ hs
  · rw [if_pos c, decide_eq_true c]; rfl
  · rw [if_neg c, decide_eq_false c]; rfl
theorem Dk.len (h : Dk kvs hs) : kvs.length ≤ hs.length := by
  obtain ⟨ks, h1, h2, rfl⟩ := h
  rw [List.length_map]
  exact List.Nodup.length_le_of_subset h1 fun j hj => (h2 j).mp hj
theorem put_ks {g : Int → V} {ks : List Int} {p : Int} {v : V} (hp : p ∈ ks) : putK (ks.map fun k => ((Sum.inl k : Key), g k)) (.inl p) v = ks.map fun k => (Sum.inl k, if k = p then v else g k) := by
  unfold putK
  rw [if_pos]
  · rw [List.map_map]
    refine List.map_congr_left fun k hk => ?_
    show (if (Sum.inl k : Key) = .inl p then _ else _) = _
    by_cases c : k = p
    · subst c
      rw [if_pos rfl, if_pos rfl]
    · rw [if_neg (fun z => c (Sum.inl.inj z)), if_neg c]
  · rw [List.any_map, List.any_eq_true]
    exact ⟨p, hp, by simp⟩
theorem Dk.put (h : Dk kvs hs) (p : Int) : Dk (putK kvs (.inl p) (.int ((hs.count p : Nat) + 1))) (p :: hs) := by
  by_cases c : p ∈ hs
  · obtain ⟨ks, h1, h2, rfl⟩ := h
    rw [put_ks (g := fun k => V.int (hs.count k : Nat)) ((h2 p).mpr c)]
    refine ⟨ks, h1, fun j => ?_, List.map_congr_left fun k hk => ?_⟩
    · rw [h2, List.mem_cons]
      exact ⟨.inr, fun z => z.elim (fun z => by rw [z]; exact c) id⟩
    · by_cases d : k = p
      · subst d
        rw [if_pos rfl, List.count_cons_self]
        rfl
      · rw [if_neg d, List.count_cons_of_ne (Ne.symm d)]
  · have e : valV kvs (.inl p) = none := by rw [h.val, if_neg c]
    rw [putK_new _ e]
    obtain ⟨ks, h1, h2, rfl⟩ := h
    have np : ¬ p ∈ ks := fun z => c ((h2 p).mp z)
    refine ⟨ks ++ [p], nd_snoc h1 np, fun j => ?_, ?_⟩
    · rw [List.mem_append, List.mem_singleton, h2, List.mem_cons]
      exact or_comm
    · rw [List.map_append, List.map_singleton, List.count_cons_self, List.count_eq_zero.mpr c]
      congr 1
      refine List.map_congr_left fun k hk => ?_
      rw [List.count_cons_of_ne (fun z => np (by rw [z]; exact hk))]
theorem Dk.dec (h : Dk kvs hs) (hp : 2 ≤ hs.count p) : Dk (putK kvs (.inl p) (.int ((hs.count p : Nat) - 1))) (hs.erase p) := by
  have c : p ∈ hs := List.count_pos_iff.mp (by omega)
  obtain ⟨ks, h1, h2, rfl⟩ := h
  rw [put_ks (g := fun k => V.int (hs.count k : Nat)) ((h2 p).mpr c)]
  refine ⟨ks, h1, fun j => ?_, List.map_congr_left fun k hk => ?_⟩
  · rw [h2]
    by_cases d : j = p
    · subst d
      refine ⟨fun _ => ?_, fun _ => c⟩
      rw [← List.count_pos_iff, List.count_erase_self]
      omega
    · rw [List.mem_erase_of_ne d]
  · by_cases d : k = p
    · subst d
      rw [if_pos rfl, List.count_erase_self]
      congr 2
      omega
    · rw [if_neg d, List.count_erase_of_ne d]
theorem drop_ks {g : Int → V} : ∀ {ks : List Int} {p : Int}, dropK (ks.map fun k => ((Sum.inl k : Key), g k)) (.inl p) = (ks.filter (· ≠ p)).map fun k => (Sum.inl k, g k)
  | [], p => rfl
  | k :: ks, p => by
    rw [List.map_cons]
    by_cases c : k = p
    · subst c
      rw [dropK_pos rfl, drop_ks]
      simp
    · rw [dropK_neg (fun z => c (Sum.inl.inj z)), drop_ks, List.filter_cons, if_pos (by simpa using c)]
      rfl
theorem Dk.out (h : Dk kvs hs) (hp : hs.count p = 1) (v : V) : Dk (dropK (putK kvs (.inl p) v) (.inl p)) (hs.erase p) := by
  have c : p ∈ hs := List.count_pos_iff.mp (by omega)
  obtain ⟨ks, h1, h2, rfl⟩ := h
  rw [put_ks (g := fun k => V.int (hs.count k : Nat)) ((h2 p).mpr c), drop_ks (g := fun k => if k = p then v else V.int (hs.count k : Nat))]
  refine ⟨ks.filter (· ≠ p), h1.filter _, fun j => ?_, List.map_congr_left fun k hk => ?_⟩
  · rw [List.mem_filter, h2]
    by_cases d : j = p
    · subst d
      refine ⟨fun z => absurd (of_decide_eq_true z.2) (fun w => w rfl), fun z => ?_⟩
      rw [← List.count_pos_iff, List.count_erase_self] at z
      omega
    · rw [List.mem_erase_of_ne d]
      exact ⟨fun z => z.1, fun z => ⟨z, by simpa using d⟩⟩
  · have d : k ≠ p := by simpa using (List.mem_filter.mp hk).2
    rw [if_neg d, List.count_erase_of_ne d]
theorem Dk.src {K : PySem.W.Frag} {H : Hp} {c : Addr} (h : Dk kvs hs) (e : H c = some (.dK kvs)) : ∃ ks : List Int, ks.Nodup ∧ (∀ j, j ∈ ks ↔ j ∈ hs) ∧ SrcI K H c ks := by
  obtain ⟨ks, h1, h2, rfl⟩ := h
  refine ⟨ks, h1, h2, .inr ⟨_, e, ?_⟩⟩
  rw [List.map_map]
  rfl
variable {H : Hp} {Q : VK} {c : Addr} {v z : V} {k : Int} {σ : St}
theorem rd_dgetK {R : V → Prop} (e : H c = some (.dK kvs)) (hv : valV kvs (.inl k) = some v) (q : R v) : ∃ a v', V.ref c = .ref a ∧ DGet H a (.int k) (some v') ∧ R v' := ⟨c, v, rfl, by rw [← hv]; exact DGet.k (k := .inl k) e, q⟩
theorem rd_isD {R : Addr → Prop} (e : H c = some (.dK kvs)) (h : R c) : ∃ a, V.ref c = .ref a ∧ IsD H a ∧ R a := ⟨c, rfl, .inl ⟨kvs, .inl e⟩, h⟩
theorem rd_dgetO {R : Option V → Prop} (e : H c = some (.dK kvs)) (q : R (valV kvs (.inl k))) : ∃ o, DGet H c (.int k) o ∧ R o := ⟨_, DGet.k (k := .inl k) e, q⟩
theorem rd_din {R : Option V → Prop} (e : H c = some (.dK kvs)) (q : R (valV kvs (.inl k))) : ∃ a o, V.ref c = .ref a ∧ DGet H a (.int k) o ∧ R o := ⟨c, _, rfl, DGet.k (k := .inl k) e, q⟩
theorem rd_dput {R : Hp → Prop} (e : H c = some (.dK kvs)) (hl : kvs.length < sizeLine) (q : R (upd H c (.dK (putK kvs (.inl k) v)))) : ∃ a H4, V.ref c = .ref a ∧ DPut H a (.int k) v H4 ∧ R H4 := ⟨c, _, rfl, DPut.k (k := .inl k) e hl, q⟩
theorem rd_dpop {R : List (Key × V) → Key → V → Prop} (e : H c = some (.dK kvs)) (hv : valV kvs (.inl k) = some v) (q : R kvs (.inl k) v) : ∃ kvs' k' v', H c = some (.dK kvs') ∧ V.int k = kV k' ∧ valV kvs' k' = some v' ∧ R kvs' k' v' := ⟨kvs, .inl k, v, e, rfl, hv, q⟩
theorem rd_dGet {td ty : TE} (h : td σ H fun x H1 => ty σ H1 fun y H2 => ∃ a v, x = .ref a ∧ DGet H2 a y (some v) ∧ Q v H2) : tDGet td ty σ H Q := h
theorem rd_dIn {td ty : TE} (h : ty σ H fun y H1 => td σ H1 fun x H2 => ∃ a o, x = .ref a ∧ DGet H2 a y o ∧ Q (.bl o.isSome) H2) : tDIn ty td σ H Q := h
theorem rd_dNotIn {td ty : TE} (h : ty σ H fun y H1 => td σ H1 fun x H2 => ∃ a o, x = .ref a ∧ DGet H2 a y o ∧ Q (.bl (!o.isSome)) H2) : tDNotIn ty td σ H Q := h
theorem rd_dPut {td ty tv : TE} {D : Ends} (h : tv σ H fun v H1 => td σ H1 fun x H2 => ty σ H2 fun y H3 => ∃ a H4, x = .ref a ∧ DPut H3 a y v H4 ∧ D.nx σ H4) : sDPut td ty tv D σ H := h
theorem rd_dGet2 {td ty tx : TE} (h : td σ H fun x H1 => ∃ a, x = .ref a ∧ IsD H1 a ∧ ty σ H1 fun y H2 => tx σ H2 fun z H3 => ∃ o, DGet H3 a y o ∧ Q (o.getD z) H3) : tDGet2 td ty tx σ H Q := h
theorem rd_dPop1 {td ty : TE} (h : td σ H fun x H1 => ∃ a, x = .ref a ∧ IsD H1 a ∧ ty σ H1 fun y H2 => ∃ kvs k v, H2 a = some (.dK kvs) ∧ y = kV k ∧ valV kvs k = some v ∧ Q v (upd H2 a (.dK (dropK kvs k)))) : tDPop1 td ty σ H Q := h
theorem rd_sSet {K : PySem.W.Frag} {te : TE} (h : te σ H fun x H1 => rSortSet K x H1 Q) : tSortSet K te σ H Q := h
theorem rd_sortSet {K : PySem.W.Frag} {ns : List Int} {a : Addr} (e : SqL K H a (ns.map V.int)) (hz : ns.length ≤ 1000) (hf : Few ns) (h : ∀ ms : List Int, ms.Pairwise (· < ·) → (∀ j, j ∈ ms ↔ j ∈ ns) → NewO H Q (.lst (ms.map V.int))) : rSortSet K (.ref a) H Q := ⟨a, ns, rfl, e, hz, hf, fun ms p h1 h2 h3 => h ms h1 h2 p h3⟩
theorem rd_sort {K : PySem.W.Frag} {src : List Int} {a : Addr} (e : SrcI K H a src) (hz : src.length < 64) (h : ∀ ms : List Int, ms.Perm src → ms.Pairwise (· ≤ ·) → NewO H Q (.lst (ms.map V.int))) : rSort K [.ref a] H Q := ⟨a, src, rfl, e, hz, fun ms p h1 h2 h3 => h ms h1 h2 p h3⟩
theorem rd_sortR {K : PySem.W.Frag} {src : List Int} {a : Addr} (e : SrcI K H a src) (hz : src.length < 64) (h : ∀ ms : List Int, ms.Perm src → ms.Pairwise (· ≥ ·) → NewO H Q (.lst (ms.map V.int))) : rSortR K [.ref a] [.bl true] H Q := ⟨a, src, rfl, rfl, e, hz, fun ms p h1 h2 h3 => h ms h1 h2 p h3⟩
theorem rd_count {K : PySem.W.Frag} {ns : List Int} {a : Addr} (e : SqL K H a (ns.map V.int)) (q : Q (.int (ns.count k : Nat)) H) : rCount K (.ref a) [.int k] H Q := ⟨a, ns, k, rfl, rfl, e, q⟩
theorem rd_remove {ns : List Int} {a : Addr} (e : H a = some (.lst (ns.map V.int))) (hk : k ∈ ns) (q : Q .non (upd H a (.lst ((ns.erase k).map V.int)))) : rRemove (.ref a) [.int k] H Q := ⟨a, ns, k, rfl, rfl, e, hk, q⟩
theorem rd_extend {a b : Addr} {xs zs : List V} (e : H a = some (.lst xs)) (e' : H b = some (.lst zs)) (hz : xs.length + zs.length ≤ sizeLine) (q : Q .non (upd H a (.lst (xs ++ zs)))) : rExtend (.ref a) [.ref b] H Q := ⟨a, b, xs, zs, rfl, rfl, e, e', hz, q⟩
theorem rd_clear {a : Addr} {xs : List V} (e : H a = some (.lst xs)) (q : Q .non (upd H a (.lst []))) : rClear (.ref a) [] H Q := ⟨a, xs, rfl, rfl, e, q⟩
theorem rd_repN {a : Addr} {xs : List V} {n : Nat} (e : H a = some (.lst xs)) (hn : n ≤ 100000) (hz : xs.length * n ≤ 100000) (q : NewO H Q (.lst (List.replicate n xs).flatten)) : rRep (.ref a) (.int n) H Q :=
  ⟨a, n, xs, rfl, rfl, e, by omega, by omega, Nat.le_trans (by simpa using hz) (by decide), fun p hp => by simpa using q p hp⟩
end
section
variable {X : Cx} {e : Expr} {te : TE} {p pos : Pos}
theorem psort (hm : X.mg "sorted" = none) (ha : PE X e te) (hc : X.calm = true := by rfl) (hg : Gl X "sorted" := by rfl)
    (he : starEach (e :: []) X.env = (false, eval e X.env) :: starEach [] X.env := by rfl) (hpl : (backTo pos (starEach [] X.env)).any (·.1) = false := by rfl) :
    PE X (.Call (.Name "sorted" p) [e] [] pos) (tCB (rSort X.K) (tCons te tNil)) := pe_callB (call_sorted hc) hg hm PyProof.Rows.boot_sorted (pa_cons ha pa_nil he) (by decide) (by decide) he hpl
end
end L2

namespace L2
open PySem PySem.Spec PyProof.Rows
section
variable {X : Cx} {scope : Scope} {cl : List (Str × Addr)} {own fn : List Str} {fr : List Nat} {pins : List (Addr × Obj)} {σ : St} {H : Hp} {s : Shared} {fp : List Addr} {h4 : Heap} {tk : Nat} {J : It} {it : Addr} {tn : Nat → Heap → Prop} {tg : Expr}
theorem ps_setC {i : Nat} {x : Str} {px spos : Pos} {elt iter : Expr} {ifs : List Expr} {pos : Pos} {wi : TI} {g : TG} {tt : TT} {te : TE} (hc : X.calm = true) (S : CompScope X scope cl own fn fr) (hi : PI X tg iter wi)
    (hg : ∀ C s H fp, PG (X.comp scope cl C (own ++ fn) s H fp) tg g) (ht : ∀ C s H fp, PTs (X.comp scope cl C (own ++ fn) s H fp) ifs tt) (he : ∀ C s H fp, PE (X.comp scope cl C (own ++ fn) s H fp) elt te)
    (hN : X.N.Nodup) (hiN : X.N[i]? = some x) (hx : Loc X.env.scope x) (hfx : X.fn x = true ∨ X.env.scope.names.lookup x = some .local := by first | exact .inl rfl | exact .inr rfl) (hs : ∀ x, foldedSetIterable iter X.env x = pure x := by intro _; rfl)
    (hsw : swapsWith (.ListComp elt [⟨tg, iter, ifs, 0⟩] scope pos) (some (.Name x px)) spos.line X.env = pure true := by rfl) : PS X (.Assign [.Name x px] (.ListComp elt [⟨tg, iter, ifs, 0⟩] scope pos) spos) (tAsg (tComp wi g tt te own.length fr) (gName i)) := by
  intro pins s σ H D I h
  have hgx : PG X (.Name x px) (gName i) := pg_name hN hiN hx hfx
  rw [exec_Assign_Name_used _ _ _ _ hsw]
  refine wpAny_bind (wpAny_standAt (wpAny_bind ?_))
  show wpAny _ X.A (do let _ ← comprehension (.ListComp elt [⟨tg, iter, ifs, 0⟩] scope pos) scope X.env _ (newList []) false (eval iter X.env) (some (assign (.Name x px) X.env))) _ _ s
  refine wpAny_bind (wpAny_mono (wpAny_comprehension_free (use := some (assign (.Name x px) X.env)) (Q := fun _ s' => SP X pins D .next s') rfl hs S.clos S.kind S.names (thn (hi pins s σ H _ I h) fun v s1 h1 => thn h1 fun itv s2 h2 => ?_)) (fun _ s' hq => wpAny_pure (wpAny_pure hq)) fun _ _ e => e)
  obtain ⟨it, fp, tn, J, H2, rfl, I2, T, st2, f2, q⟩ := h2
  refine wpAny_newObj_type (wpAny_newFunctionEnv S.cell (by intro y hy; simp at hy) (fun h4 ns4 sb4 => ?_) S.kind)
  have hnew : H2 s2.heap.objs.size = none := I2.hok.fresh (Nat.le_refl _)
  obtain ⟨W, ⟨m0, w0⟩, turn⟩ := q s2.heap.objs.size hnew
  have sz : (s2.heap.push { cls := .type "list", dict := none, data := .seq ([] : List Value).toArray }).objs.size = s2.heap.objs.size + 1 := Heap.size_push ..
  dsimp only at ns4 sb4 ⊢
  rw [sz] at ns4 sb4 ⊢
  have old : ∀ b o, s2.heap.get? b = some o → h4.get? b = some o := fun b o e =>
    (sb4.2 b (Nat.ne_of_lt (Nat.lt_succ_of_lt (Heap.lt_size e)))).trans (Heap.get?_push_of_some _ (Heap.get?_push_of_some _ e))
  have acc : h4.get? s2.heap.objs.size = some { cls := .type "list", data := .seq ([] : List Value).toArray } :=
    (sb4.2 _ (Nat.ne_of_lt (Nat.lt_succ_self _))).trans (Heap.get?_push_of_some _ (Heap.get?_push_size _ rfl))
  have fo : ∀ b ∈ fp, ∃ o, s2.heap.get? b = some o := fun b hb => let ⟨o, e, _⟩ := T.obj 0 _ st2 b hb; ⟨o, e⟩
  have I4 := comp_start (tk := s2.toks + ([] : List (Str × Value)).length) S I2 f2 fo I2.len ns4 old acc
  have stf : ∀ {H' : Hp} {pl : List (Addr × Obj)}, pl = [] → (∀ b ∈ fp, H' b = none) → ∀ b ∈ fp, FpOk (X.comp scope cl (s2.heap.objs.size + 1) (own ++ fn) s2 H2 fp) pl H' b := fun {H' pl} e hn b hb => by
    subst e
    exact ⟨hn b hb, (I4.ok.exf b hb).1, I4.ok.exfs b hb, .inl hb, (I4.ok.exf b hb).2, fun p hp => absurd (show p ∈ ([] : List (Addr × Obj)) from hp) (by simp)⟩
  have st4 : tn 0 h4 := T.keep _ _ _ st2 fun b hb o e => old b o e
  have fr4 : ∀ b ∈ fp, upd H2 s2.heap.objs.size (.lst []) b = none := fun b hb => by
    obtain ⟨o, e⟩ := fo b hb
    rw [upd_ne (Nat.ne_of_lt (Heap.lt_size e))]
    exact (f2 b hb).1
  have out : ∀ {τ : St} {H' : Hp} {s' : Shared}, Inv (X.comp scope cl (s2.heap.objs.size + 1) (own ++ fn) s2 H2 fp) [] τ H' s' → gName i (.ref s2.heap.objs.size) σ H' D.nx →
      compPost (model X.prog X.w) X.A X.xe (some (assign (.Name x px) X.env)) (fun _ s' => SP X pins D .next s') (.ref s2.heap.objs.size) (s2.heap.objs.size + 1) (.ok .next) s' := fun {τ H' s'} J' hq => by
    obtain ⟨m, hn, _⟩ := id J'.loc
    obtain ⟨oC, es, ep, eC, dC, rC⟩ := id hn
    have lo : ∀ b o, s2.heap.get? b = some o → b ≠ s2.heap.objs.size + 1 := fun b o e => Nat.ne_of_lt (Nat.lt_succ_of_lt (Heap.lt_size e))
    have fC : H' (s2.heap.objs.size + 1) = none := J'.free
    have u : Un (frs X.stack) fp H2 H' s2.heap s'.heap :=
      ⟨fun b o e n hb hx => J'.base.keep b o e n hb hx, fun b o e n hb hx => J'.base.slot b o e n hb hx, J'.base.free, fun b o e hx => J'.base.there b o e hx, J'.base.tups, J'.base.frzs, J'.base.tbls⟩
    have IX : Inv X pins σ H' s' := I2.call' (s' := s') J'.os u J'.hok J'.bare fun b hb => ⟨(f2 b hb).2.2.2.1, (f2 b hb).2.1, (f2 b hb).2.2.2.2.1, (f2 b hb).2.2.2.2.2⟩
    have nC : s2.heap.objs.size ≤ s2.heap.objs.size + 1 := Nat.le_succ _
    have okC : FpOk X pins H' (s2.heap.objs.size + 1) := I2.fpOk nC fC
    have IP : Inv X (pins ++ [(s2.heap.objs.size + 1, oC)]) σ H' s' := IX.pins_of fun p hp => (List.mem_append.mp hp).elim (fun z => IX.pin p (List.mem_append_right _ z)) fun z => by
      have e : p = (s2.heap.objs.size + 1, oC) := by simpa using z
      subst e
      exact ⟨eC, fC, okC.2.1, okC.2.2.1, fun v z => by
        have z' : oC.data = .cell v := z
        rw [dC] at z'
        cases z'⟩
    show wpAny _ X.A (assign (.Name x px) X.env (.ref s2.heap.objs.size)) _ _ s'
    refine thn (hgx _ s' σ H' (.ref s2.heap.objs.size) _ D.nx IP rfl hq) fun _ s3 ⟨σ3, H3, I3, q3⟩ => ?_
    have pC := I3.pin (s2.heap.objs.size + 1, oC) (List.mem_append_right _ (List.mem_append_right _ List.mem_cons_self))
    have I3' := I3.unpinned
    refine ⟨m, ⟨oC, es, ep, pC.1, dC, rC⟩, fun h' sb => ⟨σ3, H3, ?_, q3⟩⟩
    have neC : ∀ b u, H3 b = some u → b ≠ s2.heap.objs.size + 1 := fun b u e z => by rw [z, pC.2.1] at e; cases e
    refine I3'.step (g' := s3.gens) (d' := s3.drawn) (t' := s3.toks) (ch := [s2.heap.objs.size + 1]) (fun b hb => ?_) (fun b o _ _ nb e _ => (sb.2 b (fun z => nb (by simp [z]))).trans e) (fun b o _ _ nb e _ => ⟨o.slots, (sb.2 b (fun z => nb (by simp [z]))).trans e⟩) (fun b o _ _ n => n) (fun b o nb e => ⟨o, (sb.2 b (fun z => nb (by simp [z]))).trans e⟩)
      (fun _ _ e => e) (fun _ _ _ e => e) (fun b ps e => ⟨#[], by simpa using e⟩) (fun m hm => hm.sameBut sb (Ne.symm okC.2.1)) (fun b ob e => ?_) I3'.bare
    · have e : b = s2.heap.objs.size + 1 := by simpa using hb
      subst e
      exact ⟨okC.2.2.2.1, okC.2.1, okC.2.2.2.2.1, okC.2.2.2.2.2⟩
    · refine (I3'.hok b ob e).stay (fun c v hc z => (sb.2 c ?_).trans z) (fun _ z => z) fun _ _ z => z
      rcases hc with zz | zz
      · rw [zz]; exact neC b ob e
      · exact neC c _ zz
  have loop : codeAny (model X.prog X.w) X.A (.compLoop (.ListComp elt [⟨tg, iter, ifs, 0⟩] scope pos) 0 (.ref it) (.ref s2.heap.objs.size) (compEnvC scope cl (s2.heap.objs.size + 1) X.env))
      (compPost (model X.prog X.w) X.A X.xe (some (assign (.Name x px) X.env)) (fun _ s' => SP X pins D .next s') (.ref s2.heap.objs.size) (s2.heap.objs.size + 1)) { s2 with heap := h4, toks := s2.toks + ([] : List (Str × Value)).length } := by
    refine comp_loop (fun n s' => ∃ i τ H', Inv (X.comp scope cl (s2.heap.objs.size + 1) (own ++ fn) s2 H2 fp) [] τ H' s' ∧ tn i s'.heap ∧ (∀ b ∈ fp, H' b = none) ∧ W i n τ H') ?_ m0 ⟨0, _, _, I4, st4, fr4, w0⟩
    rintro n s5 ⟨i, τ, H5, I5, st5, fr5, w5⟩
    rcases turn i n τ H5 w5 with ⟨stop, qn⟩ | ⟨go, step⟩
    · refine thn (T.done (X.comp scope cl (s2.heap.objs.size + 1) (own ++ fn) s2 H2 fp) rfl rfl rfl hc i [] s5 τ H5 (fun _ _ => False) I5 (stf rfl fr5) st5 stop) fun r s6 ⟨hr, I6⟩ => ?_
      subst hr
      exact out I6 qn
    · refine thn (T.item (X.comp scope cl (s2.heap.objs.size + 1) (own ++ fn) s2 H2 fp) rfl rfl rfl hc i [] s5 τ H5 (fun _ _ => False) I5 (stf rfl fr5) st5 go) fun r s6 ⟨u, hr, h6⟩ => ?_
      subst hr
      refine thn h6 fun _ s7 ⟨x, H7, I7, r7, y7, st7, fr7⟩ => ?_
      have I7' := I7.pinned (stf rfl fr7) (T.obj _ _ st7)
      refine thn (hg _ _ _ _ _ s7 τ H7 x u _ I7' r7 (step x H7 y7)) fun _ s8 ⟨τ8, H8, I8, q8⟩ => ?_
      have again : ∀ {s9 : Shared} {H9 : Hp} {m' : Nat}, Inv (X.comp scope cl (s2.heap.objs.size + 1) (own ++ fn) s2 H2 fp) ([] ++ pinsAt fp s7.heap) τ8 H9 s9 → m' < n → W (i + 1) m' τ8 H9 →
          ∃ m, m < n ∧ ∃ i τ H', Inv (X.comp scope cl (s2.heap.objs.size + 1) (own ++ fn) s2 H2 fp) [] τ H' s9 ∧ tn i s9.heap ∧ (∀ b ∈ fp, H' b = none) ∧ W i m τ H' := fun {s9 H9 m'} I9 hm w9 => by
        refine ⟨m', hm, i + 1, τ8, H9, I9.unpinned, T.keep _ _ _ st7 fun b hb o e => (I9.pin (b, o) (List.mem_append_right _ (List.mem_append_right _ (mem_pinsAt hb e)))).1, fun b hb => ?_, w9⟩
        obtain ⟨o, e, d⟩ := T.obj _ _ st7 b hb
        exact (I9.pin (b, o) (List.mem_append_right _ (List.mem_append_right _ (mem_pinsAt hb e)))).2.1
      refine thn (ht _ _ _ _ _ s8 τ8 H8 _ I8 q8) fun ok s9 ⟨H9, I9, q9⟩ => ?_
      cases ok with
      | false =>
        obtain ⟨m', hm, w9⟩ := q9
        exact again I9 hm w9
      | true =>
        refine thn (he _ _ _ _ _ s9 τ8 H9 _ I9 q9) fun u10 s10 ⟨y, H10, I10, r10, ys, e10, z10, m', hm, w10⟩ => ?_
        refine thn (mt_append _ s10 τ8 H10 (.ref s2.heap.objs.size) [y] _ [u10] (fun _ H11 => W (i + 1) m' τ8 H11) I10 rfl (.cons r10 .nil) ⟨_, ys, y, rfl, rfl, e10, z10, w10⟩) fun _ s11 ⟨_, H11, I11, _, w11⟩ => ?_
        exact again I11 hm w11
  exact codeAny_compStart_list loop (T.self _ 0 _ _ _ st4 loop)
end
end L2

namespace Sp
open PySem L2 SpM
def txt (b : Bool) : Str := if b then "join" else "split"
def stpO (s : Stp) : HO := .tup [.str (txt s.1), .int s.2]
inductive Tups (H : Hp) : List V → List Stp → Prop
  | nil : Tups H [] []
  | cons {t : Addr} {xs : List V} {s : Stp} {ws : List Stp} : H t = some (stpO s) → Tups H xs ws → Tups H (.ref t :: xs) (s :: ws)
theorem Tups.same {H H' : Hp} {xs : List V} {ws : List Stp} (h : Tups H xs ws) (s : Same H H') : Tups H' xs ws := by
  induction h with
  | nil => exact .nil
  | cons e _ ih => exact .cons (s _ _ e) ih
def SameX (c : Addr) (H H' : Hp) : Prop := ∀ b o, b ≠ c → H b = some o → H' b = some o
theorem SameX.refl {c : Addr} {H : Hp} : SameX c H H := fun _ _ _ e => e
theorem SameX.trans {c : Addr} {H H1 H2 : Hp} (a : SameX c H H1) (b : SameX c H1 H2) : SameX c H H2 := fun x o n e => b x o n (a x o n e)
theorem SameX.of {c : Addr} {H H1 : Hp} (a : Same H H1) : SameX c H H1 := fun x o _ e => a x o e
theorem SameX.upd {c : Addr} {H H1 : Hp} (a : SameX c H H1) (o : HO) : SameX c H (upd H1 c o) := fun x o' n e => by rw [upd_ne n]; exact a x o' n e
theorem SameX.new {c : Addr} {H H1 : Hp} (a : SameX c H H1) (n : H c = none) : Same H H1 := fun x o e => a x o (ne_of_none e n) e
theorem Tups.sameX {c : Addr} {kvs : List (Key × V)} {H H' : Hp} {xs : List V} {ws : List Stp} (h : Tups H xs ws) (e : H c = some (.dK kvs)) (s : SameX c H H') : Tups H' xs ws := by
  induction h with
  | nil => exact .nil
  | cons e1 _ ih => exact .cons (s _ _ (ne_of e1 e (by unfold stpO; intro z; cases z)) e1) ih
theorem Tups.mono {H H' : Hp} {xs : List V} {ws : List Stp} (h : Tups H xs ws) (k : ∀ t s, H t = some (stpO s) → H' t = some (stpO s)) : Tups H' xs ws := by
  induction h with
  | nil => exact .nil
  | cons e _ ih => exact .cons (k _ _ e) ih
theorem Tups.put {H : Hp} {l : Addr} {zs ys : List V} {xs : List V} {ws : List Stp} (h : Tups H xs ws) (e : H l = some (.lst zs)) : Tups (upd H l (.lst ys)) xs ws :=
  h.mono fun t s z => by
    rw [upd_ne (ne_of z e (by unfold stpO; intro z; cases z))]
    exact z
theorem rep_one (n : Nat) (v : V) : (List.replicate n [v]).flatten = List.replicate n v := by
  induction n with
  | zero => rfl
  | succ n ih => rw [List.replicate_succ, List.flatten_cons, ih, List.replicate_succ]; rfl
theorem rd_seqK {t u : TS} {D : Ends} {σ : St} {H : Hp} (P : St → Hp → Prop) (h2 : ∀ σ H, P σ H → u D σ H) (h1 : (∀ σ H, P σ H → u D σ H) → t { D with nx := u D } σ H) : tSeq t u D σ H := h1 h2
theorem iv_get {ms : List Int} {i : Nat} {x : V} (h : (iv ms)[i]? = some x) : ∃ y, ms[i]? = some y ∧ V.int y = x := by
  unfold iv at h
  rw [List.getElem?_map] at h
  exact Option.map_eq_some_iff.mp h
theorem Tups.length {H : Hp} {xs : List V} {ws : List Stp} (h : Tups H xs ws) : xs.length = ws.length := by
  induction h with
  | nil => rfl
  | cons _ _ ih => simp [ih]
theorem Tups.append {H : Hp} {xs ys : List V} {ws vs : List Stp} (h : Tups H xs ws) (h' : Tups H ys vs) : Tups H (xs ++ ys) (ws ++ vs) := by
  induction h with
  | nil => exact h'
  | cons e _ ih => exact .cons e ih
theorem Tups.get {H : Hp} {xs : List V} {ws : List Stp} (h : Tups H xs ws) {i : Nat} {s : Stp} (e : ws[i]? = some s) : ∃ t, xs[i]? = some (.ref t) ∧ H t = some (stpO s) := by
  induction h generalizing i with
  | nil => simp at e
  | cons e1 _ ih =>
    cases i with
    | zero => cases e; exact ⟨_, rfl, e1⟩
    | succ i => exact ih (by simpa using e)
theorem Tups.getV {H : Hp} {xs : List V} {ws : List Stp} (h : Tups H xs ws) {i : Nat} {x : V} (e : xs[i]? = some x) : ∃ t s, x = .ref t ∧ ws[i]? = some s ∧ H t = some (stpO s) := by
  induction h generalizing i with
  | nil => simp at e
  | cons e1 _ ih =>
    cases i with
    | zero => cases e; exact ⟨_, _, rfl, rfl, e1⟩
    | succ i => exact ih (by simpa using e)
theorem Tups.take {H : Hp} : ∀ {xs : List V} {ws : List Stp}, Tups H xs ws → ∀ n : Nat, Tups H (xs.take n) (ws.take n)
  | _, _, .nil, n => by simp; exact .nil
  | _, _, .cons e r, 0 => .nil
  | _, _, .cons e r, n + 1 => .cons e (Tups.take r n)
theorem Tups.drop {H : Hp} : ∀ {xs : List V} {ws : List Stp}, Tups H xs ws → ∀ n : Nat, Tups H (xs.drop n) (ws.drop n)
  | _, _, .nil, n => by simp; exact .nil
  | _, _, .cons e r, 0 => .cons e r
  | _, _, .cons e r, n + 1 => Tups.drop r n
def dS (s : Stp) : PyData := .tuple [.str (txt s.1), .int s.2]
theorem Dat.stp {K : PySem.W.Frag} {H : Hp} {t : Addr} {s : Stp} (e : H t = some (stpO s)) : Dat K H (.ref t) (dS s) := .tup (SqT.of e) (.cons (.str _) (.cons (.int _) .nil))
theorem Tups.dats {K : PySem.W.Frag} {H : Hp} {xs : List V} {ws : List Stp} (h : Tups H xs ws) : Dats K H xs (ws.map dS) := by
  induction h with
  | nil => exact .nil
  | cons e _ ih => exact .cons (Dat.stp e) ih
theorem txtOk (b : Bool) : PyData.strOk (txt b) = true := by cases b <;> decide +kernel
theorem canS : ∀ ws : List Stp, PyData.canLayAll0 (ws.map dS) = true
  | [] => rfl
  | _ :: r => by simp [PyData.canLayAll0, PyData.canLay0, canS r, dS, txtOk]
theorem depS : ∀ ws : List Stp, PyData.depthAll (ws.map dS) ≤ 1
  | [] => by simp [PyData.depthAll]
  | _ :: r => by
    have := depS r
    simp [PyData.depthAll, PyData.depth, dS]
    omega
theorem shapeS (s : Stp) : SeqAt.shaped (dS s) = true := by simp [SeqAt.shaped, dS, PyData.canLay0, PyData.canLayAll0, PyData.depth, PyData.depthAll, txtOk]
theorem shapeSs (ws : List Stp) : SeqAt.shaped (.list (ws.map dS)) = true := by
  have := depS ws
  simp [SeqAt.shaped, PyData.canLay0, PyData.depth, canS]
  omega
theorem txt_inj {a b : Bool} (h : txt a = txt b) : a = b := by
  cases a <;> cases b <;> first | rfl | (exfalso; revert h; decide)
theorem eqv_dS (s s' : Stp) : PyData.eqv (dS s) (dS s') = decide (s = s') := by
  obtain ⟨a, p⟩ := s
  obtain ⟨b, q⟩ := s'
  by_cases h1 : a = b
  · subst h1
    by_cases h2 : p = q
    · subst h2
      rw [SeqAt.eqv_refl _ (SeqAt.canLay_of_shaped (shapeS _)), decide_eq_true rfl]
    · rw [decide_eq_false (fun z => h2 (Prod.mk.inj z).2)]
      simp [dS, PyData.eqv, PyData.eqvAll, h2]
  · rw [decide_eq_false (fun z => h1 (Prod.mk.inj z).1)]
    have h3 : ¬ txt a = txt b := fun z => h1 (txt_inj z)
    simp [dS, PyData.eqv, PyData.eqvAll, h3]
theorem any_dS (s : Stp) : ∀ ws : List Stp, ((ws.map dS).any fun y => PyData.eqv y (dS s)) = decide (s ∈ ws)
  | [] => by simp
  | x :: r => by
    rw [List.map_cons, List.any_cons, any_dS s r, eqv_dS]
    by_cases h : s = x
    · subst h
      simp
    · have h' : ¬ x = s := fun z => h z.symm
      simp [h, h']
theorem rd_notInS {K : PySem.W.Frag} {H : Hp} {Q : VK} {t a : Addr} {s : Stp} {xs : List V} {ws : List Stp} (e : H t = some (stpO s)) (ea : SqL K H a xs) (h : Tups H xs ws) (q : Q (.bl (!decide (s ∈ ws))) H) : rInD K true (.ref t) (.ref a) H Q :=
  ⟨dS s, a, xs, ws.map dS, Dat.stp e, rfl, ea, h.dats, shapeS s, shapeSs ws, by rw [if_pos rfl, any_dS]; exact q⟩
theorem dats_list {K : PySem.W.Frag} {H : Hp} {a : Addr} {xs : List V} {ws : List Stp} (ea : SqL K H a xs) (h : Tups H xs ws) : Dat K H (.ref a) (.list (ws.map dS)) := .lst ea h.dats
def toldT (H : Hp) (Q : VK) (ws : List Stp) : Prop := ∀ r xs H', Same H H' → H r = none → H' r = some (.lst xs) → Tups H' xs ws → Q (.ref r) H'
theorem toldT_same {H H1 : Hp} {Q : VK} {ws : List Stp} (s : Same H H1) (q : toldT H Q ws) : toldT H1 Q ws := fun r xs H' s' n' e' t' => q r xs H' (s.trans s') (s.free n') e' t'
theorem Few.of {ns : List Int} (h : ns.length < 64) : Few ns := fun ms nd hs => Nat.lt_of_le_of_lt (List.Nodup.length_le_of_subset nd hs) h
theorem Few.perm {a b : List Int} (h : Few a) (p : a.Perm b) : Few b := fun ms nd hs => h ms nd fun j hj => p.mem_iff.mpr (hs j hj)
def spMarkW : Sp := fun vs H Q _ => ∃ p : Int, vs = [.int p] ∧ Q (.int (wt1 p)) H
def spWeight : Sp := fun vs H Q _ => ∃ (a : Addr) (ns : List Int), vs = [.ref a] ∧ H a = some (.lst (iv ns)) ∧ ns.length ≤ 1000 ∧ ∀ H', Same H H' → Q (.int (wt ns)) H'
def spPutIn : Sp := fun vs H Q _ => ∃ (c : Addr) (p : Int) (kvs : List (Key × V)) (hs : List Int), vs = [.ref c, .int p] ∧ H c = some (.dK kvs) ∧ Dk kvs hs ∧ hs.length ≤ 1000 ∧ ∀ kvs', Dk kvs' (p :: hs) → Q .non (upd H c (.dK kvs'))
def spTakeOut : Sp := fun vs H Q _ => ∃ (c : Addr) (p : Int) (kvs : List (Key × V)) (hs : List Int), vs = [.ref c, .int p] ∧ H c = some (.dK kvs) ∧ Dk kvs hs ∧ hs.length ≤ 1000 ∧ p ∈ hs ∧ ∀ kvs', Dk kvs' (hs.erase p) → Q .non (upd H c (.dK kvs'))
def spCounted : Sp := fun vs H Q _ => ∃ (a : Addr) (ns : List Int), vs = [.ref a] ∧ H a = some (.lst (iv ns)) ∧ ns.length ≤ 1000 ∧ ∀ c H' kvs, Same H H' → H c = none → H' c = some (.dK kvs) → Dk kvs ns → Q (.ref c) H'
def spFalling : Sp := fun vs H Q _ => ∃ (c : Addr) (kvs : List (Key × V)) (hs : List Int), vs = [.ref c] ∧ H c = some (.dK kvs) ∧ Dk kvs hs ∧ hs.length ≤ 1000 ∧ Few hs ∧ ∀ ds : List Int, ds.Perm hs → ds.Pairwise (· ≥ ·) → told H Q (iv ds)
def spAmong : Sp := fun vs H Q _ => ∃ (c : Addr) (kvs : List (Key × V)) (hs : List Int), vs = [.ref c] ∧ H c = some (.dK kvs) ∧ Dk kvs hs ∧ hs.length ≤ 1000 ∧ Few hs ∧ ∀ ws, IsWays hs ws → toldT H Q ws
def spSteps : Sp := fun vs H Q _ => ∃ (a : Addr) (ns : List Int), vs = [.ref a] ∧ H a = some (.lst (iv ns)) ∧ ns.length ≤ 1000 ∧ Few ns ∧ ∀ ws, IsWays ns ws → toldT H Q ws
def spGo : Sp := fun vs H Q _ => ∃ (t : Addr) (s : Stp), vs = [.ref t] ∧ H t = some (stpO s) ∧ told H Q (iv [s.2, goQ s])
def spCome : Sp := fun vs H Q _ => ∃ (t : Addr) (s : Stp), vs = [.ref t] ∧ H t = some (stpO s) ∧ told H Q (iv (comeS s))
def spDoStep : Sp := fun vs H Q _ => ∃ (c t : Addr) (kvs : List (Key × V)) (hs : List Int) (s : Stp), vs = [.ref c, .ref t] ∧ H c = some (.dK kvs) ∧ H t = some (stpO s) ∧ Dk kvs hs ∧ hs.length ≤ 900 ∧ can hs s ∧ ∀ H' kvs', SameX c H H' → H' c = some (.dK kvs') → Dk kvs' (aft hs s) → Q .non H'
def spDone : Sp := fun vs H Q _ => ∃ (a t : Addr) (ns : List Int) (s : Stp), vs = [.ref a, .ref t] ∧ H a = some (.lst (iv ns)) ∧ H t = some (stpO s) ∧ ns.length ≤ 900 ∧ Few ns ∧ Few (aft ns s) ∧ can ns s ∧ ∀ ds : List Int, ds.Perm (aft ns s) → ds.Pairwise (· ≥ ·) → told H Q (iv ds)
def spDoneBad (C : Addr) : Sp := fun vs H _ E => ∃ (a t : Addr) (ns : List Int) (s : Stp), vs = [.ref a, .ref t] ∧ H a = some (.lst (iv ns)) ∧ H t = some (stpO s) ∧ ns.length ≤ 900 ∧ Few ns ∧ ¬ can ns s ∧ ∀ H', Same H H' → E (.ref C) none H'
def spBehind : Sp := fun vs H Q _ => ∃ (a t : Addr) (ns : List Int) (s : Stp), vs = [.ref a, .ref t] ∧ H a = some (.lst (iv ns)) ∧ H t = some (stpO s) ∧ ns.length ≤ 1000 ∧ can ns s ∧ 0 ≤ s.2 ∧ told H Q (iv (aft ns s))
def spIsStep : Sp := fun vs H Q _ => ∃ (t : Addr) (s : Stp), vs = [.ref t] ∧ H t = some (stpO s) ∧ Q (.bl true) H
end Sp

namespace L2
open PySem PySem.Spec PyProof.Rows PySem.W
def Frz (o : Obj) : HO := .frz o (.ext fun _ => True)
section
variable {P : Program} {w : World} {H : Hp} {h : Heap} {a : Addr} {o : Obj}
theorem frz_ok (e : h.get? a = some o) : ObjOk P w H h a (Frz o) := ⟨e, trivial, ⟨o, e⟩, fun _ _ _ _ => trivial⟩
theorem frz_at (hk : HOk P w H h) (e : H a = some (Frz o)) : h.get? a = some o := (hk a _ e).1
end
def CodeO (oc : Obj) (qual : Str) : Prop := ∃ vs t, oc.data = .fields vs ∧ vs[1]? = some (.str qual t)
structure LamScope (N ps fn : List Str) (scope : Scope) (cl : List (Str × Addr)) : Prop where
  kind : scope.kind = .function
  co : scope.isCoroutine = false
  gen : scope.isGenerator = false
  cell : ∀ x ∈ scope.names, x.2 ≠ .cell
  par : ∀ x ∈ ps, scope.names.lookup x = some .local
  fre : ∀ x ∈ fn, scope.names.lookup x = some .free
  hasF : ∀ y ∈ scope.names, y.2 = .free → y.1 ∈ fn
  hasC : ∀ x ∈ fn, ∃ c, cl.lookup x = some c
  names : N = ps ++ fn
  nd : (ps ++ fn).Nodup
def cxL (CX : CXT) (P : Program) (w : World) (K : PySem.W.Frag) (mg : Str → Option Value) (base : Heap) (N : List Str) (qual : Str) (scope : Scope) (F : Addr) (cd : Value) (cl : List (Str × Addr)) (A : Around) (outer : List Env) (s : Shared) (H : Hp) (E : XK) : Cx where
  prog := P
  w := w
  K := K
  mg := mg
  base := base
  A := A.deeper (envX qual scope s.heap.objs.size F cd cl)
  N := N
  s₀ := s
  H₀ := H
  env := envX qual scope s.heap.objs.size F cd cl
  outer := outer
  stack := envX qual scope s.heap.objs.size F cd cl :: outer
  ex := []
  calm := true
  fn := fun _ => false
  pn := []
  xe := fun e s' => wpAny (model P w) (A.deeper (envX qual scope s.heap.objs.size F cd cl)) (leaving (envX qual scope s.heap.objs.size F cd cl) e) (fun _ s'' => CX outer H s E e s'') (fun e' s'' => CX outer H s E e' s'') s'
theorem zip_fst : ∀ (ps : List Str) (us : List Value), ((ps.zip us).map (·.1)).Sublist ps
  | [], us => by simp
  | p :: ps, [] => by simp
  | p :: ps, u :: us => by
    simp only [List.zip_cons_cons, List.map_cons]
    exact (zip_fst ps us).cons₂ p
theorem zip_lookup {ps : List Str} {us : List Value} {i : Nat} {x : Str} {u : Value} : ps.Nodup → ps[i]? = some x → us[i]? = some u → (ps.zip us).reverse.lookup x = some u := by
  intro nd h1 h2
  have hm : (x, u) ∈ (ps.zip us).reverse := by
    rw [List.mem_reverse]
    exact List.mem_of_getElem? (i := i) (by rw [List.getElem?_zip_eq_some]; exact ⟨h1, h2⟩)
  have nd2 : ((ps.zip us).reverse.map (·.1)).Nodup := by
    rw [List.map_reverse]
    refine (List.reverse_perm _).nodup_iff.mpr ?_
    exact nd.sublist (zip_fst _ _)
  exact lookup_of_mem' nd2 hm
where
  lookup_of_mem' : ∀ {l : List (Str × Value)} {x : Str} {u : Value}, (l.map (·.1)).Nodup → (x, u) ∈ l → l.lookup x = some u := by
    intro l x u nd hm
    induction l with
    | nil => cases hm
    | cons p r ih =>
      obtain ⟨y, v⟩ := p
      rw [List.map_cons, List.nodup_cons] at nd
      rw [List.lookup_cons]
      rcases List.mem_cons.mp hm with e | e
      · cases e
        rw [beq_self_eq_true]
      · have : (x == y) = false := by
          refine beq_eq_false_iff_ne.mpr fun z => nd.1 ?_
          rw [← z]
          exact List.mem_map.mpr ⟨_, e, rfl⟩
        rw [this]
        exact ih nd.2 e
section
variable {P : Program} {w : World} {K : PySem.W.Frag} {mg : Str → Option Value} {base : Heap} {F c' : Addr} {name qual : Str} {params : Arguments} {body : Expr} {scope : Scope} {cl : List (Str × Addr)} {pm ctv : Value} {N ps fn : List Str} {fvs : List V} {sp : Sp} {k : Nat}
theorem lam_fn (hF : base.get? F = some (kla_obj name qual params body scope cl pm c' ctv)) (hC : ∀ vs H Q E, sp vs H Q E → ∃ oc, H c' = some (Frz oc) ∧ CodeO oc qual) (S : LamScope N ps fn scope cl)
    (hfl : fvs.length = fn.length) (hcl : ∀ (i : Nat) x v, fn[i]? = some x → fvs[i]? = some v → ∃ c u, cl.lookup x = some c ∧ base.IsCell c (some u) ∧ RelV v u)
    (hcl2 : ∀ x c, cl.lookup x = some c → ∃ v, base.IsCell c v) (inj : ∀ x y c, cl.lookup x = some c → cl.lookup y = some c → x = y)
    (len : ∀ vs H Q E, sp vs H Q E → vs.length = ps.length)
    (hbody : ∀ (A : Around) (outer : List Env) (s : Shared) (H : Hp) (vs : List V) (Q : VK) (E : XK), Room k (A.deeper (envX qual scope s.heap.objs.size F (.ref c') cl)) → sp vs H Q E →
      ∃ t, PE (cxL CX0 P w K mg base N qual scope F (.ref c') cl A outer s H E) body t ∧ t (vs.map some ++ fvs.map some) H Q) :
    FnOk P w K mg base CX0 (k + 1) F (kla_fn name qual params body scope cl pm (.ref c') ctv) ps sp := by
  refine ⟨len, fun A outer s H args us vs Q E hr e0 hb r hsp => ?_⟩
  have hl := len _ _ _ _ hsp
  have lim : s.heap.NoLimit := e0.mod.nolimit.keeps fun b o e => (e0.bs b o e).1
  obtain ⟨oc, hc1, vs1, t1, hc2, hc3⟩ := hC _ _ _ _ hsp
  have hcd : s.heap.CodeRec (.ref c') qual := ⟨c', oc, vs1, t1, rfl, frz_at e0.hok hc1, hc2, hc3⟩
  refine kla_callFunE hr.depth (e0.bs _ _ hF).1 rfl S.co S.gen rfl hcd (hb _ _ _ _ ?_)
  refine wpAny_newFunctionEnv S.cell (fun y hy => S.par _ (List.of_mem_zip hy).1) (fun h1 ns sb => ⟨lim.fresh _ sb, ?_⟩) S.kind
  refine kla_codeExpr ?_
  obtain ⟨t, ht, hq⟩ := hbody A outer s H vs Q E (hr.deeper _) hsp
  have hk : ∀ b o, s.heap.get? b = some o → h1.get? b = some o := fun b o e => sb.extBut b o (Nat.ne_of_lt (Heap.lt_size e)) (Heap.get?_push_of_some _ e)
  have noA : ∀ b : Addr, b ∉ (cxL CX0 P w K mg base N qual scope F (.ref c') cl A outer s H E).ex := fun b z => absurd (show b ∈ ([] : List Addr) from z) (by simp)
  have cellH : ∀ x c, cl.lookup x = some c → H c = none := fun x c e => by
    obtain ⟨v, o, ho, _⟩ := hcl2 x c e
    exact (e0.bs _ _ ho).2
  have I : Inv (cxL CX0 P w K mg base N qual scope F (.ref c') cl A outer s H E) [] (vs.map some ++ fvs.map some) H { s with heap := h1, toks := s.toks + (ps.zip us).length } := by
    refine ⟨⟨e0.mod, S.kind, rfl, rfl, Nat.le_refl _, inj, fun y hy => ?_, fun y c z => Bool.noConfusion z, fun _ => hr.hd, Around.frames_deeper e0.frames, .inr ⟨rfl, rfl⟩, fun b z => absurd z (noA b), e0.bs, e0.bsz, fun b _ _ => noA b, fun b z => absurd z (noA b), e0.funs, e0.frf⟩,
      rfl, e0.bare, Un.kept hk, ⟨_, ns, fun i y v h1' h2 h3 => ?_⟩, fun y c h => ?_, e0.hok.fresh (Nat.le_refl _), fun y c h => cellH y c h, fun p hp => absurd (show p ∈ ([] : List (Addr × Obj)) from hp) (by simp), e0.hok.kept hk, ?_⟩
    · have hy : scope.names.lookup y = some .cell ∨ scope.names.lookup y = some .free := hy
      rcases hy with hy | hy
      · exact absurd rfl (S.cell _ (PySem.mem_of_lookup hy))
      · exact S.hasC y (S.hasF _ (PySem.mem_of_lookup hy) rfl)
    · have h1'' : N[i]? = some y := h1'
      rw [S.names] at h1''
      by_cases hi : i < ps.length
      · rw [List.getElem?_append_left hi] at h1''
        rw [List.getElem?_append_left (by simpa [hl] using hi), List.getElem?_map] at h2
        have ha : vs[i]? = some v := by
          cases e : vs[i]? with
          | none => rw [e] at h2; cases h2
          | some a => rw [e] at h2; cases h2; rfl
        obtain ⟨u, hu, rv⟩ := r.get ha
        have ndP : ps.Nodup := (List.nodup_append.mp (S.nd)).1
        exact ⟨u, rv, .inl ⟨S.par y (List.mem_of_getElem? h1''), zip_lookup ndP h1'' hu⟩⟩
      · rw [List.getElem?_append_right (by omega)] at h1''
        rw [List.getElem?_append_right (by simpa [hl] using hi), List.getElem?_map, List.length_map, hl] at h2
        have ha : fvs[i - ps.length]? = some v := by
          cases e : fvs[i - ps.length]? with
          | none => rw [e] at h2; cases h2
          | some a => rw [e] at h2; cases h2; rfl
        obtain ⟨c, u, hc, ⟨o, ho, hd⟩, rv⟩ := hcl _ _ _ h1'' ha
        exact ⟨u, rv, .inr ⟨.inr (S.fre y (List.mem_of_getElem? h1'')), c, hc, o, hk _ _ (e0.bs _ _ ho).1, hd⟩⟩
    · obtain ⟨v, o, ho, hd⟩ := hcl2 y c h
      exact ⟨v, o, hk _ _ (e0.bs _ _ ho).1, hd⟩
    · show _ = N.length
      rw [S.names, List.length_append, List.length_append, List.length_map, List.length_map, hl, hfl]
  exact wpAny_mono (ht [] _ _ H _ I hq) (fun u s' ⟨v, H', J, rv, q⟩ => ⟨v, H', J.os, J.bare, J.base, J.hok, rv, q⟩) fun e s' hs => hs
end
structure FnAt (P : Program) (w : World) (K : PySem.W.Frag) (mg : Str → Option Value) (base : Heap) (k : Nat) (F : Addr) (ps : List Str) (sp : Sp) : Prop where
  ex : ∃ o fd, base.get? F = some o ∧ o.data = .func fd ∧ FnOk P w K mg base CX0 k F fd ps sp ∧ ∀ us : List Value, us.length = ps.length → bindArgs fd ⟨us, []⟩ = pure (ps.zip us)
def tCallV (P : Program) (w : World) (K : PySem.W.Frag) (mg : Str → Option Value) (base : Heap) (k : Nat) (tf : TE) (t : TA) : TE := fun σ H Q => tf σ H fun x H1 => ∃ F ps sp, x = .ref F ∧ FnAt P w K mg base k F ps sp ∧ t σ H1 fun vs H2 => sp vs H2 Q E0
section
variable {X : Cx} {x : Str} {p pos : Pos} {e : Expr} {es : List Expr} {t : TA} {i k : Nat}
theorem pcallV (hr : Room k X.A) (hf : PE X (.Name x p) (tVar i)) (ha : PA X (e :: es) t) (he : starEach (e :: es) X.env = (false, eval e X.env) :: starEach es X.env := by rfl) (hpl : (backTo pos (starEach es X.env)).any (·.1) = false := by rfl) :
    PE X (.Call (.Name x p) (e :: es) [] pos) (tCallV X.prog X.w X.K X.mg X.base k (tVar i) t) := by
  intro pins s σ H Q I h
  refine wpAny_Call_Name_kw (thn (hf pins s σ H _ I h) fun u s1 ⟨v, H1, I1, r1, F, ps, sp, ev, ⟨o, fd, hF, hd, G, hb⟩, q1⟩ => ?_)
  subst ev
  cases r1
  rw [he]
  have key := ha pos pins s1 σ H1 _ I1 q1
  rw [he] at key
  refine callWith_of (P := fun h => h.get? F = some o) (by show ((false || (backTo pos (starEach es X.env)).any (·.1)) || false) = false; rw [hpl]; rfl) (fun h e => ⟨.frame, .inl rfl, (Looks.ld (part := none) e).andThen (by rw [hd]; exact .now)⟩)
    (Calls.evalArgs_plain (thn key fun us s2 ⟨vs, H2, I2, r2, q2⟩ => ⟨(I2.bs _ _ hF).1, ?_⟩))
  exact run_fn (ds := []) (dvs := []) G hr (Binds.all hb) .nil pass0 I2 r2 (by rw [List.append_nil]; exact q2)
end

def ground (s : Shared) (H : Hp) (fr : List Addr) : Heap := hideAll s.heap (trk s.heap H ++ fr)
section
variable {P : Program} {w : World} {K : PySem.W.Frag} {mg : Str → Option Value} {base : Heap} {A : Around} {outer : List Env} {s : Shared} {H : Hp} {fr : List Addr} {b : Addr} {o : Obj}
theorem ground_get (e : s.heap.get? b = some o) (n : H b = none) (hf : b ∉ fr) : (ground s H fr).get? b = some o :=
  hideAll_get _ e fun hm => by
    rcases List.mem_append.mp hm with z | z
    · have q : (H b).isSome = true := (List.mem_filter.mp z).2
      rw [n] at q; simp at q
    · exact hf z
theorem of_ground (e : (ground s H fr).get? b = some o) : s.heap.get? b = some o ∧ H b = none ∧ b ∉ fr := by
  have e' : s.heap.get? b = some o := of_hideAll _ e
  refine ⟨e', ?_, fun hb => ?_⟩
  · cases q : H b with
    | none => rfl
    | some x =>
      have hm : b ∈ trk s.heap H ++ fr := List.mem_append_left _ (List.mem_filter.mpr ⟨List.mem_range.mpr (Heap.lt_size e'), by simp [q]⟩)
      have z : (ground s H fr).get? b = none := hideAll_none _ hm
      rw [z] at e; cases e
  · have z : (ground s H fr).get? b = none := hideAll_none _ (List.mem_append_right _ hb)
    rw [z] at e; cases e
theorem ground_none (hb : b ∈ fr) : (ground s H fr).get? b = none := hideAll_none _ (List.mem_append_right _ hb)
theorem funFrames_ground : ∀ {l : List Env}, s.heap.FunFrames base l → (∀ b ∈ frs l, b ∈ fr) → s.heap.FunFrames (ground s H fr) l
  | [], _, _ => trivial
  | env :: rest, ⟨h1, ⟨L, o, h2, h3, h4, h5⟩, h6⟩, k => by
    have hk : ∀ b ∈ frs rest, b ∈ fr := fun b hb => k b (by unfold frs; rw [List.filterMap_cons, h2]; exact List.mem_cons_of_mem _ hb)
    exact ⟨h1, ⟨L, o, h2, ground_none (k L (by unfold frs; rw [List.filterMap_cons, h2]; exact List.mem_cons_self)), h4, h5⟩, funFrames_ground h6 hk⟩
theorem Env0.keeps (e : Env0 P w K mg base A outer s H) : ∀ b o, base.get? b = some o → (ground s H (frs outer)).get? b = some o := fun b o q =>
  ground_get (e.bs b o q).1 (e.bs b o q).2 fun hb => by
    have := (e.funs.mem hb).1
    rw [q] at this; cases this
theorem Mod.keeps {h' : Heap} (m : Mod K mg base) (k : ∀ b o, base.get? b = some o → h'.get? b = some o) : Mod K mg h' :=
  ⟨m.kin.keeps k, m.glob.keeps k, let ⟨mb, h1, h2⟩ := m.blt; ⟨mb, h1.keeps k, h2⟩, m.nolimit.keeps k⟩
theorem Env0.rebase (e : Env0 P w K mg base A outer s H) : Env0 P w K mg (ground s H (frs outer)) A outer s H where
  frames := e.frames
  mod := e.mod.keeps e.keeps
  bs := fun b o q => ⟨(of_ground q).1, (of_ground q).2.1⟩
  bsz := Nat.le_of_eq (hideAll_size _ _)
  funs := funFrames_ground e.funs fun _ hb => hb
  frf := e.frf
  hok := e.hok
  bare := e.bare
end
def LamT (H : Hp) (Pt : Addr) (pos : Pos) (qual : Str) : Prop :=
  H Pt = some (.tbl #[]) ∨ ∃ c' oc, H Pt = some (.tbl #[rawInt pos.line, rawInt pos.col, .ref c']) ∧ H c' = some (Frz oc) ∧ CodeO oc qual
theorem LamT.same {H H' : Hp} {Pt : Addr} {pos : Pos} {qual : Str} (h : LamT H Pt pos qual) (s : Same H H') : LamT H' Pt pos qual := by
  rcases h with h | ⟨c', oc, h1, h2, h3⟩
  · exact .inl (s _ _ h)
  · exact .inr ⟨c', oc, s _ _ h1, s _ _ h2, h3⟩
theorem LamT.there {H : Hp} {Pt : Addr} {pos : Pos} {qual : Str} (h : LamT H Pt pos qual) : H Pt ≠ none := by
  rcases h with h | ⟨c', oc, h1, h2, h3⟩
  · rw [h]; simp
  · rw [h1]; simp
theorem LamT.ne {H : Hp} {Pt : Addr} {pos : Pos} {qual : Str} (h : LamT H Pt pos qual) {a : Addr} {o : HO} (e : H a = some o) (hn : ∀ ps, o ≠ .tbl ps) : a ≠ Pt := fun z => by
  subst z
  rcases h with h | ⟨c', oc, h1, h2, h3⟩
  · rw [e] at h; exact hn _ (Option.some.inj h)
  · rw [e] at h1; exact hn _ (Option.some.inj h1)
def lamP (st : Stmt) : Pos := match (defBody st).getLast? with
  | some (.Return (some (.Call _ [_, .Lambda _ _ _ p] _ _)) _) => p
  | _ => ⟨0, 0, 0, 0⟩
section
variable {X : Cx} {pins : List (Addr × Obj)} {σ : St} {H : Hp} {s : Shared} {c Pt : Addr} {params : Arguments} {body : Expr} {scope : Scope} {lpos : Pos} {qual : Str} {cl : List (Str × Addr)}
theorem BuiltinsAt.keeps {h h' : Heap} {mg : Str → Option Value} (x : h.BuiltinsAt mg Pt) (k : ∀ b o, h.get? b = some o → h'.get? b = some o) : h'.BuiltinsAt mg Pt :=
  let ⟨bm, o, a1, a2, a3, a4, a5, a6⟩ := x; ⟨bm, o, a1, a2, a3, a4, k _ _ a5, a6⟩
theorem lam_make {Q : Value → Shared → Prop} (I : Inv X pins σ H s) (hcode : X.env.code = .ref c) (hC : CodeHd X.base c Pt) (hb : X.base.BuiltinsAt X.mg Pt) (hT : LamT H Pt lpos qual) (hcl : closureFor scope X.env = pure cl) (hdef : defaultsOf params X.env = ([], []))
    (hq : X.env.qual ++ "<lambda>" = qual)
    (h : ∀ F c' oc ctv pm H2 s2, Inv X pins σ H2 s2 → s2.heap.get? F = some (kla_obj "<lambda>" qual params body scope cl pm c' ctv) → H2 F = none → s.heap.objs.size ≤ F → H2 c' = some (Frz oc) → CodeO oc qual → LamT H2 Pt lpos qual → (∀ b u, b ≠ Pt → H b = some u → H2 b = some u) →
      (∀ b u, s.heap.get? b = some u → H b = none → b ∉ frs X.stack → s2.heap.get? b = some u) → Q (.ref F) s2) :
    wpAny (model X.prog X.w) X.A (eval (.Lambda params body scope lpos) X.env) Q X.xe s := by
  refine kla_eval hdef ?_
  rw [hq]
  have hC' := hC.keeps I.bk
  have hb' := BuiltinsAt.keeps hb I.bk
  have hg := I.mod.glob.keeps I.bk
  have gn : H mainGlobals = none := by
    obtain ⟨o, es, ep, e, _⟩ := I.mod.glob
    exact (I.bs _ _ e).2
  rcases hT with hT | ⟨c', oc, hT, hc', co⟩
  · have hP : s.heap.get? Pt = some (tabObj #[]) := I.hok _ _ hT
    have hgP : mainGlobals ≠ Pt := fun e => by rw [e, hT] at gn; cases gn
    refine kla_makeFunction hcl I.ok.glob hg hcode hC' hP trivial rfl hgP hb' fun c' ctv h' tk hx hge hlt hrec htb => ?_
    obtain ⟨c2, oc, vs, t, e2, hoc, hd, hv⟩ := hrec
    cases e2
    have fc : H c' = none := I.hok.fresh hge
    have ncP : c' ≠ Pt := fun e => by rw [e, hT] at fc; cases fc
    have htb' : h'.get? Pt = some (tabObj (#[] ++ #[rawInt lpos.line, rawInt lpos.col, .ref c'])) := htb
    have szF : s.heap.objs.size ≤ h'.objs.size := Nat.le_trans hge (Nat.le_of_lt hlt)
    have old : ∀ b u, b ≠ Pt → s.heap.get? b = some u → (h'.push (kla_obj "<lambda>" qual params body scope cl ((X.mg "__name__").getD .none) c' ctv)).get? b = some u := fun b u nb e => Heap.get?_push_of_some _ (hx b u nb e)
    have nP : ∀ b, H b = none → b ≠ Pt := fun b n e => by rw [e, hT] at n; cases n
    have nc : ∀ b u, s.heap.get? b = some u → b ≠ c' := fun b u e => Nat.ne_of_lt (Nat.lt_of_lt_of_le (Heap.lt_size e) hge)
    have H2n : ∀ b, b ≠ Pt → b ≠ c' → upd (upd H Pt (.tbl (#[] ++ #[rawInt lpos.line, rawInt lpos.col, .ref c']))) c' (Frz oc) b = H b := fun b n1 n2 => by rw [upd_ne n2, upd_ne n1]
    have H2c : upd (upd H Pt (.tbl (#[] ++ #[rawInt lpos.line, rawInt lpos.col, .ref c']))) c' (Frz oc) c' = some (Frz oc) := upd_same
    have H2P : upd (upd H Pt (.tbl (#[] ++ #[rawInt lpos.line, rawInt lpos.col, .ref c']))) c' (Frz oc) Pt = some (.tbl (#[] ++ #[rawInt lpos.line, rawInt lpos.col, .ref c'])) := by rw [upd_ne (Ne.symm ncP), upd_same]
    have some2 : ∀ b u, b ≠ Pt → H b = some u → upd (upd H Pt (.tbl (#[] ++ #[rawInt lpos.line, rawInt lpos.col, .ref c']))) c' (Frz oc) b = some u := fun b u n e => by rw [H2n b n (ne_of_none e fc)]; exact e
    have I2 : Inv X pins σ (upd (upd H Pt (.tbl (#[] ++ #[rawInt lpos.line, rawInt lpos.col, .ref c']))) c' (Frz oc)) { s with heap := h'.push (kla_obj "<lambda>" qual params body scope cl ((X.mg "__name__").getD .none) c' ctv), toks := tk } := by
      refine I.step (g' := s.gens) (d' := s.drawn) (t' := tk) (ch := []) (fun b z => absurd z (by simp)) (fun b u _ _ _ e n => old b u (nP b n) e) (fun b u _ _ _ e n => ⟨u.slots, old b u (nP b n) e⟩) (fun b u _ e n => ?_) (fun b u _ e => ?_) (fun b xs e => ?_) (fun b ob u e => ?_) (fun b ps e => ?_) (fun m hm => ?_) (fun b ob e => ?_) I.bare
      · rw [H2n b (nP b n) (nc b u e)]; exact n
      · by_cases hbP : b = Pt
        · subst hbP; exact ⟨_, Heap.get?_push_of_some _ htb'⟩
        · exact ⟨u, old b u hbP e⟩
      · exact some2 b _ (ne_of e hT (by intro z; cases z)) e
      · exact some2 b _ (ne_of e hT (by intro z; cases z)) e
      · by_cases hbP : b = Pt
        · subst hbP
          rw [hT] at e
          cases e
          exact ⟨_, H2P⟩
        · exact ⟨#[], by rw [some2 b _ hbP e]; simp⟩
      · exact (hm.extBut hx (nP _ I.free)).push _
      · by_cases hbP : b = Pt
        · subst hbP
          rw [H2P] at e
          cases e
          exact Heap.get?_push_of_some _ htb'
        · by_cases hbc : b = c'
          · subst hbc
            rw [H2c] at e
            cases e
            exact frz_ok (Heap.get?_push_of_some _ hoc)
          · rw [H2n b hbP hbc] at e
            refine (I.hok b ob e).stay (fun b' u hb' q => old b' u ?_ q) (fun b' q => some2 b' _ (ne_of q hT (by intro z; cases z)) q) fun b' xs q => some2 b' _ (ne_of q hT (by intro z; cases z)) q
            rcases hb' with z | z
            · rw [z]; exact hbP
            · exact ne_of z hT (by intro z; cases z)
    refine h _ c' oc ctv _ _ _ I2 (Heap.get?_push_size _ rfl) ?_ szF H2c ⟨vs, t, hd, hv⟩ (.inr ⟨c', oc, by rw [H2P]; simp, H2c, vs, t, hd, hv⟩) some2 fun b u e n _ => old b u (nP b n) e
    rw [H2n _ (nP _ (I.hok.fresh szF)) (Ne.symm (Nat.ne_of_lt hlt))]
    exact I.hok.fresh szF
  · have hP : s.heap.get? Pt = some (tabObj #[rawInt lpos.line, rawInt lpos.col, .ref c']) := I.hok _ _ hT
    refine kla_makeFunctionHit (cv := .ref c') hcl I.ok.glob hg hcode hC' hP ?_ ?_ hb' fun ctv h' tk hk hsz => ?_
    · exact trivial
    · simp [codeAmong, rawInt]
    have k2 : ∀ b u, s.heap.get? b = some u → (h'.push (kla_obj "<lambda>" qual params body scope cl ((X.mg "__name__").getD .none) c' ctv)).get? b = some u := fun b u e => Heap.get?_push_of_some _ (hk b u e)
    exact h _ c' oc ctv _ H _ (I.kept k2) (Heap.get?_push_size _ rfl) (I.hok.fresh hsz) hsz hc' co (.inr ⟨c', oc, hT, hc', co⟩) (fun b u _ e => e) fun b u e _ _ => k2 b u e
end

structure LamAt (X : Cx) (σ : St) (base' : Heap) (H1 H2 : Hp) (Pt F c' : Addr) (oc : Obj) (params : Arguments) (body : Expr) (scope : Scope) (lpos : Pos) (qual : Str) (cl : List (Str × Addr)) (pm ctv : Value) : Prop where
  fn : base'.get? F = some (kla_obj "<lambda>" qual params body scope cl pm c' ctv)
  code : H2 c' = some (Frz oc)
  co : CodeO oc qual
  tab : LamT H2 Pt lpos qual
  same : ∀ b u, b ≠ Pt → H1 b = some u → H2 b = some u
  mod : Mod X.K X.mg base'
  cells : ∀ (j : Nat) x v cc, X.N[j]? = some x → σ[j]? = some (some v) → X.env.kindOf x = some .cell → cl.lookup x = some cc → ∃ u, base'.IsCell cc (some u) ∧ RelV v u
  cell2 : ∀ x cc, cl.lookup x = some cc → ∃ v, base'.IsCell cc v
  inj : ∀ x y cc, cl.lookup x = some cc → cl.lookup y = some cc → x = y
def tCallLam (X : Cx) (sp : Heap → Sp) (te : TE) (Pt : Addr) (params : Arguments) (body : Expr) (scope : Scope) (lpos : Pos) (qual : Str) (cl : List (Str × Addr)) : TE := fun σ H Q => te σ H fun x H1 => LamT H1 Pt lpos qual ∧
  ∀ base' F c' oc pm ctv H2, LamAt X σ base' H1 H2 Pt F c' oc params body scope lpos qual cl pm ctv → sp base' [x, .ref F] H2 Q E0
section
variable {X : Cx} {x : Str} {p pos lpos : Pos} {e : Expr} {te : TE} {k : Nat} {f c Pt : Addr} {fd : FuncData} {ps : List Str} {sp : Heap → Sp} {params : Arguments} {body : Expr} {scope : Scope} {qual : Str} {cl : List (Str × Addr)}
theorem pcallLam (GA : ∀ base, FnOk X.prog X.w X.K X.mg base CX0 k f fd ps (sp base)) (D : Df X.K X.mg x f fd ps) (hr : Room k X.A) (ha : PE X e te) (hcode : X.env.code = .ref c) (hC : CodeHd X.base c Pt) (hb : X.base.BuiltinsAt X.mg Pt) (hcl : closureFor scope X.env = pure cl)
    (hcls : ∀ p ∈ cl, X.env.cells.lookup p.1 = some p.2) (hdef : defaultsOf params X.env = ([], [])) (hq : X.env.qual ++ "<lambda>" = qual) (hfn : ∀ x, X.fn x = true := by intro _; rfl) (hg : Gl X x := by rfl) (hdb : (x == ("__debug__" : Str)) = false := by decide)
    (he : starEach (e :: [.Lambda params body scope lpos]) X.env = (false, eval e X.env) :: starEach [.Lambda params body scope lpos] X.env := by rfl)
    (he2 : starEach (Expr.Lambda params body scope lpos :: []) X.env = (false, eval (.Lambda params body scope lpos) X.env) :: starEach [] X.env := by rfl)
    (hpl : (backTo pos (starEach [.Lambda params body scope lpos] X.env)).any (·.1) = false := by rfl) :
    PE X (.Call (.Name x p) [e, .Lambda params body scope lpos] [] pos) (tCallLam X sp te Pt params body scope lpos qual cl) := by
  intro pins s σ H Q I h
  refine wpAny_Call_Name_kw (ld_glob I hg D.mg ?_ hdb)
  refine PySem.W.callWith_K (h₀ := X.base) I.ok.mod.kin D.kp ?_ he hpl
  rw [he]
  show wpAny _ _ (spliced ((false, eval e X.env) :: backTo pos (starEach [.Lambda params body scope lpos] X.env))) _ _ s
  refine Calls.spliced_cons (thn (ha pins s σ H _ I h) fun u s1 ⟨v, H1, I1, r1, hT, q1⟩ => ?_)
  rw [he2]
  show wpAny _ _ (spliced ((false, eval (.Lambda params body scope lpos) X.env) :: backTo pos (starEach [] X.env))) _ _ s1
  refine Calls.spliced_cons (lam_make I1 hcode hC hb hT hcl hdef hq fun F c' oc ctv pm H2 s2 I2 hF nF szF hc co T2 sm keep => ?_)
  refine Calls.spliced_nil ⟨I2.kIn, ?_⟩
  have frlt : ∀ b ∈ frs X.stack, b < s1.heap.objs.size := fun b hb => by
    obtain ⟨_, o, ho, _⟩ := I1.stack.mem hb
    exact Heap.lt_size ho
  have lk : ∀ y cc, cl.lookup y = some cc → X.env.cells.lookup y = some cc := fun y cc e => hcls _ (PySem.mem_of_lookup e)
  have cfr : ∀ y cc, X.env.cells.lookup y = some cc → cc ∉ frs X.stack := fun y cc e hb => by
    rcases List.mem_cons.mp (I2.stkSub _ hb) with z | z
    · exact I2.cne y cc e z
    · obtain ⟨_, o, ho, _⟩ := I2.ok.funs.mem z
      exact absurd (Nat.lt_of_lt_of_le (Heap.lt_size ho) (I2.ok.cab y cc (hfn y) e)) (Nat.lt_irrefl _)
  have LA : LamAt X σ (ground s2 H2 (frs X.stack)) H1 H2 Pt F c' oc params body scope lpos qual cl pm ctv := by
    refine ⟨ground_get hF nF fun hb => absurd (Nat.lt_of_lt_of_le (frlt _ hb) szF) (Nat.lt_irrefl _), hc, co, T2, sm, I2.env0.rebase.mod, fun j y v' cc e1 e2 e3 e4 => ?_, fun y cc e => ?_, fun y z cc e1 e2 => I2.ok.inj y z cc (lk _ _ e1) (lk _ _ e2)⟩
    · obtain ⟨m, hn, hl⟩ := I2.loc
      obtain ⟨u', r', l⟩ := hl j y v' e1 e2 (.inr (.inl e3))
      rcases l with ⟨kk, _⟩ | ⟨_, c2, ec, o, ho, hd⟩
      · rw [e3] at kk; cases kk
      · have : c2 = cc := Option.some.inj (ec.symm.trans (lk _ _ e4))
        subst this
        exact ⟨u', ⟨o, ground_get ho (I2.freeC y c2 ec) (cfr y c2 ec), hd⟩, r'⟩
    · obtain ⟨v', o, ho, hd⟩ := I2.cell y cc (lk _ _ e)
      exact ⟨v', o, ground_get ho (I2.freeC y cc (lk _ _ e)) (cfr y cc (lk _ _ e)), hd⟩
  have hs := q1 _ F c' oc pm ctv H2 LA
  have rv : Vals [v, .ref F] [u, .ref F] := .cons r1 (.cons rfl .nil)
  have hl : ([u, Value.ref F] ++ []).length = ps.length := by rw [List.append_nil, ← rv.length]; exact (GA _).len _ _ _ _ hs
  refine wpAny_call (codeAny_mono ((GA _).run X.A X.stack s2 H2 ⟨[u, .ref F], []⟩ [u, .ref F] [v, .ref F] Q E0 hr I2.env0.rebase (by have := D.bi s2 [u, .ref F] I2.kIn hl; rwa [List.append_nil] at this) rv hs) fun r s' hq => ?_)
  cases r with
  | error e => exact pass0 pins σ H2 s2 e s' I2 hq
  | ok fl =>
    cases fl with
    | ret u => exact I2.after hq
    | next => exact False.elim hq
    | brk => exact False.elim hq
    | cont => exact False.elim hq
end
structure FunD (K : PySem.W.Frag) (x qual : Str) (st : Stmt) (f : Addr) (fd : FuncData) (dV : Value) (c : Addr) : Prop where
  ex : ∃ oc od kV doc pm an ct osl, fd = PySem.W.fnOf x qual (defArgs st) (defBody st) (defScope st) dV kV doc pm an (.ref c) ct ∧ K.lookup f = some ⟨oc, od, .func (PySem.W.fnOf x qual (defArgs st) (defBody st) (defScope st) dV kV doc pm an (.ref c) ct), osl⟩ ∧ PySem.W.codeIn K (.ref c) qual = true
section
variable {P : Program} {w : World} {K : PySem.W.Frag} {mg : Str → Option Value} {base : Heap}
theorem FunD.ok {x qual : Str} {st : Stmt} {f c : Addr} {fd : FuncData} {dV : Value} {N ps : List Str} {k : Nat} {sp : Sp} (F : FunD K x qual st f fd dV c) (S : FnScope N ps (defScope st)) (len : ∀ vs H Q E, sp vs H Q E → vs.length = ps.length)
    (hbody : ∀ (A : Around) (outer : List Env) (s : Shared) (H : Hp) (vs : List V) (Q : VK) (E : XK), Room k (A.deeper (envOfC qual (defScope st) s.heap.objs.size f (.ref c))) → sp vs H Q E →
      ∃ t, PSs (cxOf CX0 P w K mg base N qual (defScope st) f (.ref c) A outer s H E) (defBody st) t ∧ t { nx := fun _ H' => Q .non H', rt := Q } (start N vs) H) : FnOk P w K mg base CX0 (k + 1) f fd ps sp := by
  obtain ⟨oc, od, kV, doc, pm, an, ct, osl, rfl, lk, hcd⟩ := F.ex
  exact fn_of lk hcd S len fun A outer s H vs Q E hr hsp => hbody A outer s H vs Q E hr hsp
end
end L2

namespace L2
open PySem PySem.Spec PyProof.Rows PySem.W
theorem law_callT {P : Program} {w : World} {K : PySem.W.Frag} {mg mb : Str → Option Value} {k : Nat} {fa a c Pt : Addr} {fd : FuncData} {x : Str} {sp : Sp} {s₁ : Shared} {vs : List Value} {ns : List Int}
    (KX : K.In s₁.heap) (hns : s₁.heap.Ns mainGlobals mg) (hb : s₁.heap.Ns builtinsNs mb) (hbb : ∀ x : Str, x ≠ "__name__" → mb x = bootBuiltins x) (hlim : s₁.heap.NoLimit) (hg : s₁.gens = #[])
    (hC : CodeHd s₁.heap c Pt) (hP : s₁.heap.get? Pt = some (tabObj #[])) (hKP : K.lookup Pt = none) (hB : s₁.heap.BuiltinsAt mg Pt)
    (ha : s₁.heap.get? a = some { cls := .type "list", data := .seq vs.toArray }) (hi : IntsAre vs ns) (hl : ns.length ≤ sizeLine) (hr : Room k callerA)
    (F : ∀ base : Heap, K.In base → base.Ns mainGlobals mg → base.BuiltinsAt mg Pt → FnOk P w K mg base CX0 k fa fd [x] sp) (hbind : ∀ (s : Shared) (u : Value), BindsTo s fd ⟨[u], []⟩ [(x, u)])
    (hsp : ∀ H : Hp, SqL K H a (ns.map V.int) → H Pt = some (.tbl #[]) → sp [.ref a] H (fun v _ => v = .bl true) fun _ _ _ => False) :
    codeAny (model P w) callerA (.call (.ref fa) ⟨[.ref a], []⟩) (fun r s' => r = .ok (.ret (.bool true)) ∧ OldK s₁.heap s'.heap ∧ s'.os = s₁.os ∧ AllBare s'.gens) s₁ := by
  have rv := vals_ints hi
  have lenV := hi.length
  have naP : a ≠ Pt := fun e => by
    rw [e, hP] at ha
    cases ha
  have core : ∀ H : Hp, SqL K H a (ns.map V.int) → H Pt = some (.tbl #[]) → HOk P w H s₁.heap → (∀ b, H b ≠ none → b = a ∨ b = Pt) → (H a = none ∨ ∃ o xs, H a = some (.frz o (.lst xs))) → (H a ≠ none → K.lookup a = none) →
      codeAny (model P w) callerA (.call (.ref fa) ⟨[.ref a], []⟩) (fun r s' => r = .ok (.ret (.bool true)) ∧ OldK s₁.heap s'.heap ∧ s'.os = s₁.os ∧ AllBare s'.gens) s₁ := by
    intro H hS hT hok hA hO hK
    have base_of : ∀ {b : Addr} {o : Obj}, s₁.heap.get? b = some o → H b = none → (hidT s₁.heap H).get? b = some o := fun e n => hidT_get e n
    have noH : ∀ {b : Addr} {o : Obj}, s₁.heap.get? b = some o → (∀ xs n, o.data ≠ .seq xs n) → (∀ ps, o ≠ tabObj ps) → H b = none := fun {b o} e d1 d2 => by
      cases q : H b with
      | none => rfl
      | some u =>
        rcases hA b (by rw [q]; simp) with e' | e'
        · subst e'
          rw [ha] at e; cases e
          exact absurd rfl (d1 _ _)
        · subst e'
          rw [hP] at e; cases e
          exact absurd rfl (d2 _)
    have nsK : ∀ {b : Addr} {m : Str → Option Value}, s₁.heap.Ns b m → (hidT s₁.heap H).Ns b m := fun {b m} ⟨o, es, ep, e, d, r⟩ => ⟨o, es, ep, base_of e (noH e (fun xs n z => by rw [d] at z; cases z) fun ps z => by rw [z] at d; cases d), d, r⟩
    have hKb : K.In (hidT s₁.heap H) := fun b o e => base_of (KX b o e) (by
      cases q : H b with
      | none => rfl
      | some u =>
        rcases hA b (by rw [q]; simp) with e' | e'
        · subst e'
          rw [hK (by rw [q]; simp)] at e; cases e
        · subst e'
          rw [hKP] at e; cases e)
    have hM : Mod K mg (hidT s₁.heap H) := ⟨hKb, nsK hns, ⟨mb, nsK hb, hbb⟩, let ⟨mc, h1, h2⟩ := hlim; ⟨mc, nsK h1, h2⟩⟩
    have hBb : (hidT s₁.heap H).BuiltinsAt mg Pt := by
      obtain ⟨bm, o, a1, a2, a3, a4, a5, a6, a7, a8⟩ := hB
      exact ⟨bm, o, a1, a2, a3, a4, base_of a5 (noH a5 (fun xs n z => by rw [a8] at z; cases z) fun ps z => by rw [z] at a8; cases a8), a6, a7, a8⟩
    have e0 : Env0 P w K mg (hidT s₁.heap H) callerA [] s₁ H := ⟨rfl, hM, fun b o e => of_hidT e, Nat.le_of_eq (hidT_size _ _), trivial, fun b hb => absurd (show b ∈ ([] : List Addr) from hb) (by simp), hok, .of_eq hg⟩
    refine codeAny_mono ((F _ hKb (nsK hns) hBb).run callerA [] s₁ H ⟨[.ref a], []⟩ [.ref a] [.ref a] _ _ hr e0 (hbind s₁ (.ref a)) (.cons rfl .nil) (hsp H hS hT)) fun r s' h => ?_
    cases r with
    | error e => exact (show False from h).elim
    | ok fl =>
      cases fl with
      | next => exact False.elim h
      | brk => exact False.elim h
      | cont => exact False.elim h
      | ret u =>
        obtain ⟨v, H', os, bare, un, hok', r', q⟩ := h
        have q' : v = .bl true := q
        subst q'
        obtain rfl : u = Value.bool true := r'
        obtain ⟨more, hT'⟩ := un.tbls Pt #[] hT
        have hP' : s'.heap.get? Pt = some { cls := .none, data := .fields (#[] ++ more) } := hok' _ _ hT'
        have keep : ∀ b o, b ≠ Pt → s₁.heap.get? b = some o → s'.heap.get? b = some o := fun b o nb e => by
          cases q : H b with
          | none => exact un.keep b o e q (by intro z; exact absurd (show b ∈ ([] : List Addr) from z) (by simp)) (by simp)
          | some u =>
            rcases hA b (by rw [q]; simp) with e' | e'
            · subst e'
              rcases hO with z | ⟨ob, xs, z⟩
              · rw [q] at z; cases z
              · have z2 := un.frzs b ob _ z
                obtain ⟨e1, _⟩ := hok b _ z
                obtain ⟨e2, _⟩ := hok' b _ z2
                rw [e] at e1; cases e1
                exact e2
            · exact absurd e' nb
        refine ⟨rfl, ⟨fun b o e => ?_, fun b o e => ?_⟩, os, bare⟩
        · by_cases nb : b = Pt
          · subst nb
            rw [hP] at e
            cases e
            exact .inr (.inl ⟨(hC.tab hP).isCodeTable, rfl, #[], more, rfl, hP'⟩)
          · exact .inl (keep b o nb e)
        · by_cases nb : b = Pt
          · subst nb
            exact ⟨_, hP'⟩
          · exact ⟨o, keep b o nb e⟩
  have tabOk : ∀ H : Hp, ObjOk P w H s₁.heap Pt (.tbl #[]) := fun H => hP
  cases hk : K.lookup a with
  | some o =>
    have e := KX a o hk
    rw [ha] at e
    cases e
    refine core (fun b => if b = Pt then some (.tbl #[]) else none) (.inr ⟨_, vs.toArray, _, hk, rfl, rfl, rfl, by rw [List.size_toArray, lenV]; exact hl, by simpa using rv⟩) (if_pos rfl) (fun b u z => ?_) (fun b z => ?_) (.inl (if_neg naP)) fun z => absurd (if_neg naP) z
    · by_cases hb : b = Pt
      · have z' := (if_pos hb).symm.trans z
        cases z'
        subst hb
        exact tabOk _
      · have z' := (if_neg hb).symm.trans z
        cases z'
    · by_cases hb : b = Pt
      · exact .inr hb
      · exact absurd (if_neg hb) z
  | none =>
    refine core (fun b => if b = a then some (.frz { cls := .type "list", data := .seq vs.toArray } (.lst (ns.map V.int))) else if b = Pt then some (.tbl #[]) else none) (.inl (.inr ⟨{ cls := .type "list", data := .seq vs.toArray }, if_pos rfl⟩))
      (by rw [if_neg (Ne.symm naP), if_pos rfl]) (fun b u z => ?_) (fun b z => ?_) (.inr ⟨_, _, if_pos rfl⟩) fun _ => hk
    · by_cases hb : b = a
      · have z' := (if_pos hb).symm.trans z
        cases z'
        subst hb
        exact ⟨ha, by rw [List.length_map]; exact hl, vs, _, rv, ha⟩
      · have z := (if_neg hb).symm.trans z
        by_cases hb : b = Pt
        · have z' := (if_pos hb).symm.trans z
          cases z'
          subst hb
          exact tabOk _
        · have z' := (if_neg hb).symm.trans z
          cases z'
    · by_cases hb : b = a
      · exact .inl hb
      · by_cases hb2 : b = Pt
        · exact .inr hb2
        · exact absurd ((if_neg hb).trans (if_neg hb2)) z
theorem walk_ofT {l : PySem.W.OpenLaw} {n k : Nat} {q : Program} {loose : List Str} {XP : (Str → Option Value) → Heap → Prop} {YP : World → Heap → Prop} {d : DefRec} {K : Params → PySem.W.Frag} {sp : World → Sp} {x : Str} {Pt : Addr}
    (hn : l.most = some n) (hn2 : n ≤ sizeLine) (hdf : d.params.defaults = []) (hr : Room k callerA)
    (hY : ∀ (w : World) (h : Heap), YP w h → (K w.params).In h) (hYP : ∀ (w : World) (h : Heap), YP w h → h.get? Pt = some (tabObj #[])) (hKP : ∀ p, (K p).lookup Pt = none)
    (F : ∀ (w : World) (mg : Str → Option Value) (fa : Addr) (h : Heap), (K w.params).In h → h.Ns mainGlobals mg → mg d.name = some (.ref fa) →
      ∃ (fd : FuncData) (c : Addr), codeHdIn (K w.params) c Pt = true ∧ (∀ (s : Shared) (u : Value), BindsTo s fd ⟨[u], []⟩ [(x, u)]) ∧
        ∀ base : Heap, (K w.params).In base → base.Ns mainGlobals mg → base.BuiltinsAt mg Pt → FnOk l.prog w (K w.params) mg base CX0 k fa fd [x] (sp w))
    (hsp : ∀ (w : World) (H : Hp) (a : Addr) (ns : List Int), ns.length ≤ n → SqL (K w.params) H a (ns.map V.int) → H Pt = some (.tbl #[]) → sp w [.ref a] H (fun v _ => v = .bl true) fun _ _ _ => False) :
    PySem.W.WalkO q loose XP YP l.row.toRowW d [] (fun f vs => PySem.call f vs) := by
  refine Att.attach_call hn hdf fun w s₀ s₁ mg mb fa o pm cd doc a vs ns G Y ho hd hcd hmg hobj hints hlen hg => ?_
  have KX := hY w _ Y
  have hP := hYP w _ Y
  obtain ⟨fd, c, hC, hb, hF⟩ := F w mg fa _ KX G.T.g hmg
  have hB : s₁.heap.BuiltinsAt mg Pt := by
    obtain ⟨bm, ob, b1, b2, b3, b4, b5, b6⟩ := G.T.bmain
    refine ⟨bm, ob, b1, b2, fun e => ?_, fun e => ?_, b3, b4, b5, b6⟩
    · obtain ⟨o, es, ep, e1, hd, _⟩ := G.T.g
      rw [e, e1] at b3; cases b3; rw [hd] at b6; cases b6
    · rw [e, hP] at b3; cases b3; cases b4
  exact law_callT KX G.T.g G.T.b G.T.builtins G.T.nolimit hg (codeHd_of_K KX hC) hP (hKP _) hB hobj hints (Nat.le_trans hlen hn2) hr hF hb fun H hS hT => hsp w H a ns hlen hS hT
end L2

namespace SpM
inductive Run (pick : Nat → Nat → Nat) (hs : List Int) : List Stp → List Int → Prop
  | nil : Run pick hs [] hs
  | snoc {row : List Stp} {h : List Int} {ws : List Stp} {s : Stp} : Run pick hs row h → IsWays h ws → ws[pick row.length ws.length]? = some s → Run pick hs (row ++ [s]) (aft h s)
section
variable {pick : Nat → Nat → Nat} {hs hs' h h' : List Int} {row : List Stp} {s : Stp}
theorem Run.last (r : Run pick hs (row ++ [s]) h) : ∃ g ws, Run pick hs row g ∧ IsWays g ws ∧ ws[pick row.length ws.length]? = some s ∧ h = aft g s := by
  generalize e : row ++ [s] = rw' at r
  cases r with
  | nil => exact absurd (congrArg List.length e) (by simp)
  | snoc r w g =>
    obtain ⟨e1, e2⟩ := List.append_inj' e rfl
    cases e2
    subst e1
    exact ⟨_, _, r, w, g, rfl⟩
theorem Run.can {ws : List Stp} {i : Nat} (w : IsWays h ws) (e : ws[i]? = some s) : SpM.can h s := (mem_ways w s).mp (List.mem_of_getElem? e)
theorem Run.nonneg (r : Run pick hs row h) (h0 : ∀ p ∈ hs, 0 ≤ p) : ∀ p ∈ h, 0 ≤ p := by
  induction r with
  | nil => exact h0
  | snoc r w e ih =>
    have c := Run.can w e
    intro p hp
    rcases aft_mem hp with z | z
    · exact ih p z
    · exact (come_ge (ih _ c.1) p z).1
theorem Run.val (r : Run pick hs row h) (h0 : ∀ p ∈ hs, 0 ≤ p) : val h = SpM.val hs := by
  induction r with
  | nil => rfl
  | snoc r w e ih =>
    have c := Run.can w e
    rw [val_aft c (r.nonneg h0 _ c.1), ih]
theorem Run.wt (r : Run pick hs row h) (h0 : ∀ p ∈ hs, 0 ≤ p) : SpM.wt h + row.length ≤ SpM.wt hs := by
  induction r with
  | nil => simp
  | snoc r w e ih =>
    have c := Run.can w e
    have := wt_aft c (r.nonneg h0 _ c.1)
    rw [List.length_append, List.length_singleton]
    omega
theorem Run.unique (r : Run pick hs row h) : ∀ {h' : List Int}, Run pick hs' row h' → hs.Perm hs' → h.Perm h' := by
  induction r with
  | nil =>
    intro h' r' p
    generalize e : ([] : List Stp) = rr at r'
    cases r' with
    | nil => exact p
    | snoc _ _ _ => exact absurd (congrArg List.length e) (by simp)
  | snoc r w e ih =>
    intro h' r' p
    obtain ⟨g', ws', r2, w2, e2, rfl⟩ := r'.last
    exact aft_perm (ih r2 p) _
theorem Run.at {k : Nat} (r : Run pick hs row h) (hk : k < row.length) : ∃ g ws s, Run pick hs (row.take k) g ∧ IsWays g ws ∧ row[k]? = some s ∧ ws[pick k ws.length]? = some s ∧ Run pick hs (row.take (k + 1)) (aft g s) := by
  induction r with
  | nil => simp at hk
  | @snoc row g ws s r w e ih =>
    by_cases c : k < row.length
    · obtain ⟨g1, ws1, s1, a1, a2, a3, a4, a5⟩ := ih c
      refine ⟨g1, ws1, s1, ?_, a2, ?_, a4, ?_⟩
      · rw [List.take_append_of_le_length (by omega)]; exact a1
      · rw [List.getElem?_append_left c]; exact a3
      · rw [List.take_append_of_le_length (by omega)]; exact a5
    · have ek : k = row.length := by
        rw [List.length_append, List.length_singleton] at hk
        omega
      subst ek
      refine ⟨g, ws, s, ?_, w, ?_, e, ?_⟩
      · rw [List.take_append_of_le_length (Nat.le_refl _), List.take_length]; exact r
      · simp
      · rw [List.take_of_length_le (by simp)]
        exact .snoc r w e
end
theorem no_ways {hs ds : List Int} (w : IsWays hs []) (p : ds.Perm hs) (f : ds.Pairwise (· ≥ ·)) (h0 : ∀ p ∈ hs, 0 ≤ p) : Form ds := by
  have no : ∀ s, ¬ can hs s := fun s c => by
    have := (mem_ways w s).mpr c
    cases this
  have key : ds.Pairwise fun a b => b + 2 ≤ a := by
    rw [List.pairwise_iff_forall_sublist] at f ⊢
    intro a b sl
    have ge := f sl
    have ma : a ∈ hs := p.mem_iff.mp (sl.subset (by simp))
    have mb : b ∈ hs := p.mem_iff.mp (sl.subset (by simp))
    by_cases e1 : a = b
    · subst e1
      refine absurd ⟨ma, ?_⟩ (no (false, a))
      show a ∈ hs.erase a
      rw [← List.count_pos_iff, List.count_erase_self, ← p.count_eq]
      have := sl.count_le a
      simp at this
      omega
    · by_cases e2 : a = b + 1
      · subst e2
        refine absurd ⟨mb, ?_⟩ (no (true, b))
        show b + 1 ∈ hs.erase b
        exact (List.mem_erase_of_ne (by omega)).mpr ma
      · have : a ≥ b := ge
        omega
  have h0' : ∀ x ∈ ds, 0 ≤ x := fun x hx => h0 x (p.mem_iff.mp hx)
  clear f p w no
  induction ds with
  | nil => trivial
  | cons a r ih =>
    rw [List.pairwise_cons] at key
    exact Form.cons (ih key.2 fun x hx => h0' x (List.mem_cons_of_mem _ hx)) (h0' a List.mem_cons_self) key.1
def HiP (high : List Int) : Prop := high = [] ∨ ∃ h, 100 ≤ h ∧ h ≤ 990 ∧ (high = [h, h + 1] ∨ high = [h + 2])
def Ok7 (hs : List Int) : Prop := hs.length ≤ 65 ∧ ∃ low high : List Int, hs.Perm (low ++ high) ∧ (∀ p ∈ low, 0 ≤ p) ∧ val low < mem 50 ∧ HiP high
theorem val_mem {p : Int} {l : List Int} (h : p ∈ l) : mem p.toNat ≤ val l := by
  have := val_erase h
  have := val_nonneg (l.erase p)
  omega
theorem low_lt {p : Int} {low : List Int} (h : p ∈ low) (hv : val low < mem 50) : p < 50 := by
  have h1 := val_mem h
  by_cases c : p < 50
  · exact c
  · have := mem_mono (show 50 ≤ p.toNat by omega)
    omega
theorem HiP.ge {high : List Int} (h : HiP high) : ∀ p ∈ high, 100 ≤ p ∧ p ≤ 992 := by
  rcases h with rfl | ⟨x, h1, h2, rfl | rfl⟩
  · intro p hp; simp at hp
  · intro p hp; simp at hp; omega
  · intro p hp; simp at hp; omega
theorem HiP.len {high : List Int} (h : HiP high) : high.length ≤ 2 := by
  rcases h with rfl | ⟨x, h1, h2, rfl | rfl⟩ <;> simp
theorem Ok7.perm {a b : List Int} (h : Ok7 a) (p : a.Perm b) : Ok7 b := by
  obtain ⟨hl, low, high, h1, h2, h3, h4⟩ := h
  exact ⟨by rw [← p.length_eq]; exact hl, low, high, p.symm.trans h1, h2, h3, h4⟩
theorem Ok7.bound {hs : List Int} (h : Ok7 hs) : ∀ p ∈ hs, 0 ≤ p ∧ p ≤ 992 := by
  obtain ⟨_, low, high, h1, h2, h3, h4⟩ := h
  intro p hp
  rcases List.mem_append.mp (h1.mem_iff.mp hp) with z | z
  · have := low_lt z h3
    have := h2 p z
    omega
  · have := h4.ge p z
    omega
theorem Ok7.step {hs : List Int} {s : Stp} (h : Ok7 hs) (c : can hs s) : Ok7 (aft hs s) := by
  refine ⟨Nat.le_trans (aft_len c) h.1, ?_⟩
  obtain ⟨hl, low, high, h1, h2, h3, h4⟩ := h
  obtain ⟨b, p⟩ := s
  have c' := can_perm h1 c
  obtain ⟨m1, m2⟩ := c'
  have m1' : p ∈ low ++ high := m1
  have ap := aft_perm h1 (b, p)
  have q2 : goQ (b, p) = p ∨ goQ (b, p) = p + 1 := by cases b <;> simp [goQ]
  by_cases lp : p ∈ low
  · have l50 := low_lt lp h3
    have e1 : (low ++ high).erase p = low.erase p ++ high := List.erase_append_left _ lp
    have m2' : goQ (b, p) ∈ low.erase p ++ high := by
      rw [← e1]
      exact m2
    have lq : goQ (b, p) ∈ low.erase p := by
      rcases List.mem_append.mp m2' with z | z
      · exact z
      · have := h4.ge _ z
        omega
    have cl : can low (b, p) := ⟨lp, lq⟩
    have e2 : ((low ++ high).erase p).erase (goQ (b, p)) = (low.erase p).erase (goQ (b, p)) ++ high := by rw [e1]; exact List.erase_append_left _ lq
    refine ⟨aft low (b, p), high, ap.trans ?_, fun x hx => ?_, by rw [val_aft cl (h2 p lp)]; exact h3, h4⟩
    · unfold aft
      dsimp only
      rw [e2, List.append_assoc, List.append_assoc]
      exact List.Perm.append_left _ List.perm_append_comm
    · rcases aft_mem hx with z | z
      · exact h2 x z
      · exact (come_ge (h2 p lp) x z).1
  · have hp : p ∈ high := (List.mem_append.mp m1').resolve_left lp
    have pg := h4.ge p hp
    have e1 : (low ++ high).erase p = low ++ high.erase p := List.erase_append_right _ lp
    have m2' : goQ (b, p) ∈ low ++ high.erase p := by
      rw [← e1]
      exact m2
    have nq : goQ (b, p) ∉ low := fun z => by
      have := low_lt z h3
      omega
    have hq : goQ (b, p) ∈ high.erase p := (List.mem_append.mp m2').resolve_left nq
    have e2 : ((low ++ high).erase p).erase (goQ (b, p)) = low ++ (high.erase p).erase (goQ (b, p)) := by rw [e1]; exact List.erase_append_right _ nq
    rcases h4 with rfl | ⟨x, x1, x2, rfl | rfl⟩
    · simp at hp
    · have hp' : p = x ∨ p = x + 1 := by simpa using hp
      rcases hp' with rfl | rfl
      · have er : ([p, p + 1] : List Int).erase p = [p + 1] := by simp
        rw [er] at hq e2
        have hq' : goQ (b, p) = p + 1 := by simpa using hq
        cases b with
        | false =>
          have : goQ (false, p) = p := rfl
          omega
        | true =>
          refine ⟨low, [p + 2], ap.trans ?_, h2, h3, .inr ⟨p, x1, x2, .inr rfl⟩⟩
          unfold aft
          dsimp only
          rw [e2, hq']
          simp [comeS]
      · have er : ([x, x + 1] : List Int).erase (x + 1) = [x] := by
          rw [List.erase_cons, if_neg (by simp; omega)]
          simp
        rw [er] at hq
        have hq' : goQ (b, x + 1) = x := by simpa using hq
        omega
    · have hp' : p = x + 2 := by simpa using hp
      subst hp'
      simp at hq
theorem Ok7.few {hs : List Int} (h : Ok7 hs) (ms : List Int) (nd : ms.Nodup) (hm : ∀ j ∈ ms, j ∈ hs) : ms.length < 64 := by
  obtain ⟨_, low, high, h1, h2, h3, h4⟩ := h
  have sub : ∀ j ∈ ms, j ∈ (List.range 50).map (fun n : Nat => (n : Int)) ++ high := fun j hj => by
    rcases List.mem_append.mp (h1.mem_iff.mp (hm j hj)) with z | z
    · refine List.mem_append_left _ (List.mem_map.mpr ⟨j.toNat, List.mem_range.mpr ?_, ?_⟩)
      · have := low_lt z h3
        have := h2 j z
        omega
      · have := h2 j z
        omega
    · exact List.mem_append_right _ z
  have := List.Nodup.length_le_of_subset nd sub
  rw [List.length_append, List.length_map, List.length_range] at this
  have := h4.len
  omega
theorem Run.ok7 {pick : Nat → Nat → Nat} {hs h : List Int} {row : List Stp} (r : Run pick hs row h) (ok : Ok7 hs) : Ok7 h := by
  induction r with
  | nil => exact ok
  | snoc r w e ih => exact ih.step (Run.can w e)
theorem form_nodup : ∀ {f : List Int}, Form f → f.Nodup
  | [], _ => List.nodup_nil
  | a :: r, h => List.nodup_cons.mpr ⟨fun z => by have := h.mem_le a z; omega, form_nodup h.tail⟩
end SpM

namespace L2
open PySem PySem.Spec PyProof.Rows PySem.W
section
variable {X : Cx} {k : Nat} {f : Addr} {fd : FuncData} {ps : List Str} {sp : Sp} {x : Str} {p pos : Pos} {e : Expr} {es : List Expr} {t : TA} {ds : List Value} {dvs : List V}
theorem pcallD (G : FnOk X.prog X.w X.K X.mg X.base CX0 k f fd ps sp) (D : Df X.K X.mg x f fd ps) (D1 : Binds X.K fd ps ds) (hd : Vals dvs ds) (hr : Room k X.A) (ha : PA X (e :: es) t) (hg : Gl X x := by rfl) (hdb : (x == ("__debug__" : Str)) = false := by decide)
    (he : starEach (e :: es) X.env = (false, eval e X.env) :: starEach es X.env := by rfl) (hpl : (backTo pos (starEach es X.env)).any (·.1) = false := by rfl) : PE X (.Call (.Name x p) (e :: es) [] pos) (tCall sp dvs E0 t) :=
  pe_call G hr hg D.mg D.kp D1 hd pass0 ha hdb he hpl
end
theorem rd_callD {σ : St} {H : Hp} {Q : VK} {sp : Sp} {E : XK} {t : TA} {dvs : List V} (h : t σ H fun vs H1 => sp (vs ++ dvs) H1 Q E) : tCall sp dvs E t σ H Q := h
theorem rd_callLam {X : Cx} {sp : Heap → Sp} {te : TE} {Pt : Addr} {params : Arguments} {body : Expr} {scope : Scope} {lpos : Pos} {qual : Str} {cl : List (Str × Addr)} {σ : St} {H : Hp} {Q : VK} (h : te σ H fun x H1 => LamT H1 Pt lpos qual ∧
    ∀ base' F c' oc pm ctv H2, LamAt X σ base' H1 H2 Pt F c' oc params body scope lpos qual cl pm ctv → sp base' [x, .ref F] H2 Q E0) : tCallLam X sp te Pt params body scope lpos qual cl σ H Q := h
theorem rd_at {t : TE} {σ σ' : St} {H : Hp} {Q : VK} (e : σ = σ') (h : t σ' H Q) : t σ H Q := by subst e; exact h
theorem rd_callV {P : Program} {w : World} {K : PySem.W.Frag} {mg : Str → Option Value} {base : Heap} {k : Nat} {tf : TE} {t : TA} {σ : St} {H : Hp} {Q : VK} (h : tf σ H fun x H1 => ∃ F ps sp, x = .ref F ∧ FnAt P w K mg base k F ps sp ∧ t σ H1 fun vs H2 => sp vs H2 Q E0) : tCallV P w K mg base k tf t σ H Q := h
end L2
namespace Sp
open PySem L2 SpM
def pickOf (ps : List Int) (k n : Nat) : Nat := (ps.getD k 0 % (n : Int)).toNat
theorem pickOf_lt (ps : List Int) (k n : Nat) (h : 0 < n) : pickOf ps k n < n := by
  unfold pickOf
  have h1 := Int.emod_nonneg (ps.getD k 0) (show (n : Int) ≠ 0 by omega)
  have h2 := Int.emod_lt_of_pos (ps.getD k 0) (show (0 : Int) < n by omega)
  omega
def Ch (P : Program) (w : World) (K : PySem.W.Frag) (mg : Str → Option Value) (base : Heap) (H : Hp) (F : Addr) (pick : Nat → Nat → Nat) : Prop :=
  FnAt P w K mg base 1 F ["found", "turn"] (fun vs H1 Q _ => ∃ (b : Addr) (k : Nat) (xs : List V) (v : V), vs = [.ref b, .int k] ∧ Same H H1 ∧ H1 b = some (.lst xs) ∧ 0 < xs.length ∧ xs[pick k xs.length]? = some v ∧ Q v H1)
def PairAt (H0 H' : Hp) (t f r : Addr) (xs : List V) (ds : List Int) (row : List Stp) : Prop := H0 t = none ∧ H' t = some (.tup [.ref f, .ref r]) ∧ H0 f = none ∧ H' f = some (.lst (iv ds)) ∧ H0 r = none ∧ H' r = some (.lst xs) ∧ Tups H' xs row ∧ f ≠ r
structure Okk (Ok : List Int → Prop) : Prop where
  step : ∀ hs s, Ok hs → can hs s → Ok (aft hs s)
  few : ∀ hs, Ok hs → Few hs
  len : ∀ hs, Ok hs → hs.length ≤ 900
  nn : ∀ hs, Ok hs → ∀ p ∈ hs, 0 ≤ p
theorem okk7 : Okk Ok7 := ⟨fun _ _ h c => h.step c, fun _ h => h.few, fun _ h => by have := h.1; omega, fun _ h p hp => (h.bound p hp).1⟩
def spBy (P : Program) (w : World) (K : PySem.W.Frag) (mg : Str → Option Value) (base : Heap) : Sp := fun vs H Q _ => ∃ (a F : Addr) (ns : List Int) (pick : Nat → Nat → Nat) (Ok : List Int → Prop), vs = [.ref a, .ref F] ∧ H a = some (.lst (iv ns)) ∧ Okk Ok ∧ Ok ns ∧ wt ns ≤ 90000 ∧
  Ch P w K mg base H F pick ∧ (∀ k n, 0 < n → pick k n < n) ∧ ∀ row hs' ds, Run pick ns row hs' → Ok hs' → IsWays hs' [] → ds.Perm hs' → ds.Pairwise (· ≥ ·) → ∀ t f r xs H', Same H H' → PairAt H H' t f r xs ds row → Q (.ref t) H'
theorem wt_nonneg : ∀ {hs : List Int}, (∀ p ∈ hs, 0 ≤ p) → 0 ≤ wt hs
  | [], _ => Int.le_refl _
  | p :: r, h => by
    have ih := wt_nonneg (hs := r) fun q hq => h q (List.mem_cons_of_mem _ hq)
    have hp := h p List.mem_cons_self
    rw [wt_cons]
    unfold wt1
    split <;> omega
def spSettled (Pt : Addr) (lpos : Pos) (qual : Str) : Sp := fun vs H Q _ => ∃ (a : Addr) (x : V) (ns ps : List Int), vs = [.ref a, x] ∧ H a = some (.lst (iv ns)) ∧ LamT H Pt lpos qual ∧ ((x = .non ∧ ps = []) ∨ ∃ b, x = .ref b ∧ H b = some (.lst (iv ps))) ∧ ps.length ≤ 1000 ∧ Ok7 ns ∧ wt ns ≤ 90000 ∧
  ∀ row hs' ds, Run (pickOf ps) ns row hs' → Ok7 hs' → IsWays hs' [] → ds.Perm hs' → ds.Pairwise (· ≥ ·) → ∀ t f r xs H', SameX Pt H H' → LamT H' Pt lpos qual → PairAt H H' t f r xs ds row → Q (.ref t) H'
theorem PairAt.old {Pt : Addr} {pos : Pos} {qual : Str} {H H2 H' : Hp} {t f r : Addr} {xs : List V} {ds : List Int} {row : List Stp} (p : PairAt H2 H' t f r xs ds row) (T : LamT H2 Pt pos qual) (s : SameX Pt H H2) : PairAt H H' t f r xs ds row := by
  obtain ⟨a1, a2, a3, a4, a5, a6, a7, a8⟩ := p
  have k : ∀ b, H2 b = none → H b = none := fun b n => by
    cases e : H b with
    | none => rfl
    | some u =>
      by_cases c : b = Pt
      · subst c
        exact absurd n T.there
      · rw [s b u c e] at n
        cases n
  exact ⟨k _ a1, a2, k _ a3, a4, k _ a5, a6, a7, a8⟩
theorem tups_nil {H : Hp} {xs : List V} {ws : List Stp} (h : Tups H xs ws) (e : xs = []) : ws = [] := by
  subst e
  cases h
  rfl
theorem LamT.keepL {Pt : Addr} {pos : Pos} {qual : Str} {H H' : Hp} {x : Addr} {l : List V} (T : LamT H Pt pos qual) (s : SameX Pt H H') (e : H x = some (.lst l)) : H' x = some (.lst l) := s _ _ (T.ne e (by intro ps z; cases z)) e
theorem LamT.keepT {Pt : Addr} {pos : Pos} {qual : Str} {H H' : Hp} {x : Addr} {l : List V} (T : LamT H Pt pos qual) (s : SameX Pt H H') (e : H x = some (.tup l)) : H' x = some (.tup l) := s _ _ (T.ne e (by intro ps z; cases z)) e
def spLawT (K : PySem.W.Frag) (Pt : Addr) : Sp := fun vs H Q _ => ∃ (a : Addr) (ns : List Int), vs = [.ref a] ∧ SqL K H a (ns.map V.int) ∧ ns.length ≤ 63 ∧ H Pt = some (.tbl #[]) ∧ ∀ H', Q (.bl true) H'
theorem wt_le {B : Int} : ∀ {l : List Int}, (∀ p ∈ l, wt1 p ≤ B) → wt l ≤ B * l.length
  | [], _ => by simp [wt_nil]
  | p :: r, h => by
    have ih := wt_le (l := r) fun q hq => h q (List.mem_cons_of_mem _ hq)
    have := h p List.mem_cons_self
    rw [wt_cons, List.length_cons]
    have : B * ((r.length + 1 : Nat) : Int) = B * r.length + B := by rw [Int.natCast_succ, Int.mul_add, Int.mul_one]
    omega
theorem val_le {n : Nat} : ∀ {l : List Int}, (∀ p ∈ l, p.toNat ≤ n) → val l ≤ (mem n) * l.length
  | [], _ => by simp [val]
  | p :: r, h => by
    have ih := val_le (l := r) fun q hq => h q (List.mem_cons_of_mem _ hq)
    have := mem_mono (h p List.mem_cons_self)
    have : (mem n) * ((r.length + 1 : Nat) : Int) = (mem n) * r.length + mem n := by rw [Int.natCast_succ, Int.mul_add, Int.mul_one]
    rw [List.length_cons]
    simp only [val]
    omega
theorem low7 {l : List Int} (h : ∀ p ∈ l, 0 ≤ p ∧ p < 20) (hl : l.length ≤ 63) : val l < mem 50 ∧ wt l ≤ 5000 := by
  constructor
  · have h1 := val_le (n := 19) (l := l) fun p hp => by have := h p hp; omega
    have h2 := mem_le_two_pow 19
    have h3 : (2 : Int) ^ 25 ≤ mem 50 := two_pow_le_mem 25
    have h4 : mem 19 * (l.length : Int) ≤ mem 19 * 63 := Int.mul_le_mul_of_nonneg_left (by omega) (by have := mem_pos 19; omega)
    have h5 : mem 19 * 63 ≤ 2 ^ 19 * 63 := Int.mul_le_mul_of_nonneg_right h2 (by decide)
    have h6 : (2 : Int) ^ 19 * 63 < 2 ^ 25 := by decide
    omega
  · have h1 := wt_le (B := 63) (l := l) fun p hp => by
      have := h p hp
      unfold wt1
      split <;> omega
    omega
theorem ok7_low {l : List Int} (h : ∀ p ∈ l, 0 ≤ p ∧ p < 20) (hl : l.length ≤ 63) : Ok7 l ∧ wt l ≤ 90000 :=
  ⟨⟨by omega, l, [], by simp, fun p hp => (h p hp).1, (low7 h hl).1, .inl rfl⟩, by have := (low7 h hl).2; omega⟩
theorem ok7_high {l : List Int} {x : Int} (h : ∀ p ∈ l, 0 ≤ p ∧ p < 20) (hl : l.length ≤ 63) (h1 : 100 ≤ x) (h2 : x ≤ 990) : Ok7 (l ++ [x, x + 1]) ∧ wt (l ++ [x, x + 1]) ≤ 90000 := by
  refine ⟨⟨by rw [List.length_append]; simp; omega, l, [x, x + 1], List.Perm.refl _, fun p hp => (h p hp).1, (low7 h hl).1, .inr ⟨x, h1, h2, .inl rfl⟩⟩, ?_⟩
  have := (low7 h hl).2
  rw [wt_append, wt_cons, wt_cons, wt_nil]
  unfold wt1
  split <;> split <;> omega
theorem menu7 (c : Int) : ∃ m : Int, atI [V.int 12, V.int 20, V.int 3, V.int 12] (c % 4) = some (.int m) ∧ 0 < m ∧ m ≤ 20 := by
  obtain ⟨k, hk⟩ : ∃ k : Nat, c % 4 = (k : Int) := ⟨(c % 4).toNat, by omega⟩
  rw [hk]
  have : k = 0 ∨ k = 1 ∨ k = 2 ∨ k = 3 := by omega
  rcases this with e | e | e | e <;> subst e
  · exact ⟨12, atI_nat rfl, by decide, by decide⟩
  · exact ⟨20, atI_nat rfl, by decide, by decide⟩
  · exact ⟨3, atI_nat rfl, by decide, by decide⟩
  · exact ⟨12, atI_nat rfl, by decide, by decide⟩
end Sp

set_option Elab.async false
set_option linter.all false
set_option maxRecDepth 100000
set_option maxHeartbeats 40000000
local macro_rules | `(tactic| walk_at "ne") => `(tactic| first | assumption | exact Ne.symm (by assumption) | (refine' L2.ne_old ?n ?e; (case n => assumption); (case e => walk_at "hp")) | (refine' L2.ne_old' ?n ?e; (case n => assumption); (case e => walk_at "hp")))
local macro_rules | `(tactic| walk_at "hp") => `(tactic| first
  | assumption | exact L2.upd_same | (refine' L2.SqL.of ?e; (case e => walk_at "hp")) | (refine' L2.SqT.of ?e; (case e => walk_at "hp"))
  | (refine' L2.upd_at ?n ?e; (case n => walk_at "ne"); (case e => walk_at "hp")) | (refine' L2.same_at ?s ?e; (case e => assumption); (case s => walk_at "sm")) | (refine' L2.sq_same ?s ?e; (case e => assumption); (case s => walk_at "sm")) | (refine' L2.same_at ?s ?e; (case s => assumption); (case e => walk_at "hp")))
local macro_rules | `(tactic| walk_at "nn") => `(tactic| first | assumption | (refine' L2.upd_free ?n ?e; (case n => walk_at "ne"); (case e => walk_at "nn")) | (refine' L2.free_at ?s ?e; (case e => assumption); (case s => walk_at "sm")))
local macro_rules | `(tactic| walk_at "sm") => `(tactic| first | assumption | exact L2.Same.refl _ | (refine' L2.same_put' ?n ?s; (case n => walk_at "nn"); (case s => walk_at "sm")) | (refine' L2.Same.trans ?a ?b; (case a => assumption); (case b => walk_at "sm")))
local macro_rules | `(tactic| walk_at "at") => `(tactic| first | exact Sp.iv_at (by assumption) | exact L2.atI_nat (by assumption) | exact L2.atI_nat (j := 0) rfl | exact L2.atI_nat (j := 1) rfl | exact L2.atI_nat (j := 2) rfl)
local macro_rules | `(tactic| walk_at "dz") => `(tactic| first | (show (0 : Int) < _; decide) | exact ⟨by decide, by decide⟩ | exact ⟨by decide, by decide, by decide⟩ | exact Or.inl ⟨by decide, by decide⟩ | exact Or.inr ⟨by decide, by decide⟩)
local macro_rules | `(tactic| walk_at "r1") => `(tactic| first
  | with_reducible refine L2.rd_seq ?_ | with_reducible refine L2.rd_asg ?_ | ((with_reducible refine' L2.rd_gNameE ?e ?_); (case e => (simp only [List.set_cons_succ, List.set_cons_zero]; try exact rfl))) | with_reducible refine L2.rd_gName ?_ | with_reducible refine L2.rd_ret ?_ | with_reducible refine L2.rd_drop ?_ | with_reducible refine L2.rd_ifS ?_
  | ((with_reducible refine' L2.rd_var ?h ?_); (case h => exact rfl)) | with_reducible refine L2.rd_c ?_ | with_reducible refine L2.rd_op ?_ | with_reducible refine L2.rd_i0 ?_
  | with_reducible refine L2.rd_eqI ?_ | with_reducible refine L2.rd_neI ?_ | with_reducible refine L2.rd_eqB ?_ | with_reducible refine L2.rd_neB ?_ | with_reducible refine L2.rd_eqS ?_ | with_reducible refine L2.rd_neS ?_
  | ((with_reducible refine' L2.rd_i ?c ?_); (case c => walk_at "dz"))
  | with_reducible refine L2.rd_un ?_ | with_reducible refine L2.rd_u ?_ | with_reducible refine L2.rd_bl ?_ | with_reducible refine L2.rd_blp ?_ | with_reducible refine L2.rd_test ?_ | with_reducible refine L2.rd_tB ?_ | with_reducible refine L2.rd_not ?_ | with_reducible refine L2.rd_notV ?_
  | with_reducible refine L2.rd_and ?_ | with_reducible refine L2.rd_or ?_ | with_reducible refine L2.rd_andV ?_ | with_reducible refine L2.rd_orV ?_ | with_reducible refine L2.rd_ifE ?_
  | with_reducible refine L2.rd_par ?_ | with_reducible refine L2.rd_par2 ?_ | with_reducible refine L2.rd_nil ?_ | with_reducible refine L2.rd_cons ?_ | with_reducible refine L2.rd_cb ?_ | with_reducible refine L2.rd_call ?_
  | with_reducible refine L2.rd_noPart ?_ | with_reducible refine L2.rd_part ?_ | with_reducible refine L2.rd_partI ?_ | with_reducible refine L2.rd_sl ?_ | with_reducible refine L2.rd_bm ?_ | with_reducible refine L2.rd_bm0 ?_
  | with_reducible refine L2.rd_int1 ?_ | with_reducible refine L2.rd_intB ?_ | with_reducible refine L2.rd_lst ?_ | with_reducible refine L2.rd_tup ?_
  | with_reducible refine L2.rd_next ?_ | with_reducible refine L2.rd_dnew ?_ | with_reducible refine L2.rd_compL ?_ | with_reducible refine L2.rd_compR ?_ | with_reducible refine L2.rd_forD ?_ | with_reducible refine L2.rd_rev ?_ | with_reducible refine L2.rd_kw ?_ | with_reducible refine L2.rd_yes ?_ | with_reducible refine L2.rd_eas ?_ | with_reducible refine L2.rd_forL ?_ | with_reducible refine L2.rd_forR1 ?_ | with_reducible refine L2.rd_forR2 ?_ | with_reducible refine L2.iteT ?_ | with_reducible refine L2.iteF ?_
  | ((with_reducible refine' L2.rd_ixL ?e ?h ?_); (case e => walk_at "hp"); (case h => walk_at "at"))
  | ((with_reducible refine' L2.rd_ixT ?e ?h ?_); (case e => walk_at "hp"); (case h => walk_at "at"))
  | ((with_reducible refine' L2.rd_len ?e ?_); (case e => walk_at "hp"))
  | ((with_reducible refine' L2.rd_lenT ?e ?_); (case e => walk_at "hp"))
  | ((with_reducible refine' L2.rd_tyL ?e ?_); (case e => walk_at "hp"))
  | ((with_reducible refine' L2.rd_listOf ?e ?_); (case e => walk_at "hp"))
  | ((with_reducible refine' L2.rd_slL ?e ?_); (case e => walk_at "hp"))
  | ((with_reducible refine' L2.rd_truL ?e ?_); (case e => walk_at "hp"))
  | ((with_reducible refine' L2.rd_maxD ?e ?_); (case e => walk_at "hp"))
  | ((with_reducible refine' L2.rd_lst2 ?e ?h ?_); (case e => walk_at "hp"); (case h => (simp only [List.set_cons_succ, List.set_cons_zero]; try exact rfl)))
  | ((with_reducible refine' L2.rd_gTup2 ?e ?h ?_); (case e => walk_at "hp"); (case h => (simp only [List.set_cons_succ, List.set_cons_zero]; try exact rfl)))
  | with_reducible refine L2.rd_truB ?_
  | ((with_reducible refine' Sp.rd_isiX ?e ?l ?c ?k ?_); (case e => walk_at "hp"); (case l => assumption); (case c => exact rfl); (case k => assumption))
  | ((with_reducible refine' L2.rd_isiL ?e ?c ?k ?_); (case e => walk_at "hp"); (case c => exact rfl); (case k => exact rfl))
  | ((with_reducible refine' L2.if_cT ?e ?_); (case e => exact rfl)) | ((with_reducible refine' L2.if_cF ?e ?_); (case e => exact rfl)))
local macro_rules | `(tactic| walk_at "rd") => `(tactic| repeat (walk_at "r1"))
local macro_rules | `(tactic| walk_at "sz") => `(tactic| first | exact L2.dec_le_size (by decide) | exact L2.dec_le_size (by simp only [List.length_append, List.length_map, List.length_cons, List.length_nil, Sp.iv_length, Sp.rowV_length]; omega) | exact Sp.smallL (by simp only [List.length_append, List.length_map, List.length_cons, List.length_nil, Sp.iv_length, Sp.rowV_length]; unfold Sp.lim at *; omega))
local macro_rules | `(tactic| walk_at "r3") => `(tactic| first
  | walk_at "r1" | with_reducible refine L2.rd_gSub ?_ | with_reducible refine L2.rd_max2 ?_ | with_reducible refine L2.rd_tyS ?_
  | ((with_reducible refine' L2.rd_tupOf ?e ?_); (case e => walk_at "hp")))
local macro_rules | `(tactic| walk_at "rt") => `(tactic| repeat (walk_at "r3"))
local macro_rules | `(tactic| walk_at "r6") => `(tactic| first
  | walk_at "r3" | with_reducible refine L2.rd_dGet ?_ | with_reducible refine L2.rd_dIn ?_ | with_reducible refine L2.rd_dNotIn ?_ | with_reducible refine L2.rd_dPut ?_ | with_reducible refine L2.rd_dGet2 ?_ | with_reducible refine L2.rd_dPop1 ?_ | with_reducible refine L2.rd_sSet ?_
  | ((with_reducible refine' L2.rd_isD ?e ?_); (case e => walk_at "hp")) | ((with_reducible refine' L2.rd_dgetO ?e ?_); (case e => walk_at "hp")) | ((with_reducible refine' L2.rd_din ?e ?_); (case e => walk_at "hp"))
  | ((with_reducible refine' L2.rd_count ?e ?_); (case e => walk_at "hp")))
local macro_rules | `(tactic| walk_at "rh") => `(tactic| repeat (walk_at "r6"))
set_option Elab.async false
set_option linter.all false
set_option maxRecDepth 100000
set_option maxHeartbeats 40000000
namespace K07
open PySem L2 SpM Sp
def top (i : Nat) : Stmt := PySem.Challenge.pw_sparsesum_k07_whole_settled_in_any_order.main.body.getD i (.Pass ⟨0, 0, 0, 0⟩)
abbrev s_settled : Stmt := top 1
abbrev s_settled_by : Stmt := top 2
abbrev s_counted : Stmt := top 3
abbrev s_falling : Stmt := top 4
abbrev s_put_in : Stmt := top 5
abbrev s_take_out : Stmt := top 6
abbrev s_steps_among : Stmt := top 7
abbrev s_do_step : Stmt := top 8
abbrev s_marks_that_go : Stmt := top 9
abbrev s_marks_that_come : Stmt := top 10
abbrev s__law_cell_at : Stmt := top 12
abbrev s__law_whole : Stmt := top 13
abbrev s__law_members : Stmt := top 14
abbrev s__law_weight : Stmt := top 15
abbrev s__law_ways : Stmt := top 16
abbrev s__law_behind : Stmt := top 17
abbrev s__law_is_step : Stmt := top 18
abbrev s__law_walked : Stmt := top 19
abbrev s__law_is_form : Stmt := top 20
abbrev s__law_right : Stmt := top 21
abbrev s_law : Stmt := top 22
theorem sc_falling : FnScope ["counts", "heap", "place"] ["counts"] (defScope s_falling) := ⟨rfl, rfl, rfl, by decide +kernel, rfl, by decide +kernel, by decide +kernel⟩
theorem sc_put_in : FnScope ["counts", "place"] ["counts", "place"] (defScope s_put_in) := ⟨rfl, rfl, rfl, by decide +kernel, rfl, by decide +kernel, by decide +kernel⟩
theorem sc_take_out : FnScope ["counts", "place"] ["counts", "place"] (defScope s_take_out) := ⟨rfl, rfl, rfl, by decide +kernel, rfl, by decide +kernel, by decide +kernel⟩
theorem sc_steps_among : FnScope ["counts", "found", "place"] ["counts"] (defScope s_steps_among) := ⟨rfl, rfl, rfl, by decide +kernel, rfl, by decide +kernel, by decide +kernel⟩
theorem sc_marks_that_go : FnScope ["step", "place"] ["step"] (defScope s_marks_that_go) := ⟨rfl, rfl, rfl, by decide +kernel, rfl, by decide +kernel, by decide +kernel⟩
theorem sc_marks_that_come : FnScope ["step", "place"] ["step"] (defScope s_marks_that_come) := ⟨rfl, rfl, rfl, by decide +kernel, rfl, by decide +kernel, by decide +kernel⟩
theorem sc__law_cell_at : FnScope ["_law_script", "_law_k"] ["_law_script", "_law_k"] (defScope s__law_cell_at) := ⟨rfl, rfl, rfl, by decide +kernel, rfl, by decide +kernel, by decide +kernel⟩
theorem sc__law_whole : FnScope ["_law_found"] ["_law_found"] (defScope s__law_whole) := ⟨rfl, rfl, rfl, by decide +kernel, rfl, by decide +kernel, by decide +kernel⟩
theorem sc__law_members : FnScope ["_law_many", "_law_row", "_law_one", "_law_other", "_law_k"] ["_law_many"] (defScope s__law_members) := ⟨rfl, rfl, rfl, by decide +kernel, rfl, by decide +kernel, by decide +kernel⟩
theorem sc__law_weight : FnScope ["_law_heap"] ["_law_heap"] (defScope s__law_weight) := ⟨rfl, rfl, rfl, by decide +kernel, rfl, by decide +kernel, by decide +kernel⟩
theorem sc__law_ways : FnScope ["_law_heap", "_law_found", "_law_place"] ["_law_heap"] (defScope s__law_ways) := ⟨rfl, rfl, rfl, by decide +kernel, rfl, by decide +kernel, by decide +kernel⟩
theorem sc__law_behind : FnScope ["_law_heap", "_law_step", "_law_marks", "_law_at"] ["_law_heap", "_law_step"] (defScope s__law_behind) := ⟨rfl, rfl, rfl, by decide +kernel, rfl, by decide +kernel, by decide +kernel⟩
theorem sc_counted : FnScope ["heap", "counts", "place"] ["heap"] (defScope s_counted) := ⟨rfl, rfl, rfl, by decide +kernel, rfl, by decide +kernel, by decide +kernel⟩
theorem sc_do_step : FnScope ["counts", "step", "place"] ["counts", "step"] (defScope s_do_step) := ⟨rfl, rfl, rfl, by decide +kernel, rfl, by decide +kernel, by decide +kernel⟩
theorem sc__law_is_step : FnScope ["_law_found"] ["_law_found"] (defScope s__law_is_step) := ⟨rfl, rfl, rfl, by decide +kernel, rfl, by decide +kernel, by decide +kernel⟩
theorem sc__law_is_form : FnScope ["_law_found", "_law_k"] ["_law_found"] (defScope s__law_is_form) := ⟨rfl, rfl, rfl, by decide +kernel, rfl, by decide +kernel, by decide +kernel⟩
theorem sc_settled_by : FnScope ["heap", "choose", "counts", "row", "found", "step"] ["heap", "choose"] (defScope s_settled_by) := ⟨rfl, rfl, rfl, by decide +kernel, rfl, by decide +kernel, by decide +kernel⟩
theorem sc__law_walked : FnScope ["_law_heap", "_law_picks", "_law_told", "_law_marks", "_law_k", "_law_ways_here", "_law_pick"] ["_law_heap", "_law_picks", "_law_told"] (defScope s__law_walked) := ⟨rfl, rfl, rfl, by decide +kernel, rfl, by decide +kernel, by decide +kernel⟩
theorem sc_settled : FnScope ["heap", "picks", "numbers"] ["heap", "picks"] (defScope s_settled) := ⟨rfl, rfl, rfl, by decide +kernel, rfl, by decide +kernel, by decide +kernel⟩
theorem sc__law_right : FnScope ["_law_heap", "_law_picks", "_law_pair", "_law_left"] ["_law_heap", "_law_picks", "_law_pair"] (defScope s__law_right) := ⟨rfl, rfl, rfl, by decide +kernel, rfl, by decide +kernel, by decide +kernel⟩
theorem sc_law : FnScope ["_law_script", "_law_cell", "_law_cells", "_law_heap", "_law_picks", "_law_prime", "_law_handed", "_law_pair", "_law_turned", "_law_other", "_law_row"] ["_law_script"] (defScope s_law) := ⟨rfl, rfl, rfl, by decide +kernel, rfl, by decide +kernel, by decide +kernel⟩
def spWalked : Sp := fun vs H Q _ => ∃ (a b r : Addr) (ns ps : List Int) (xs : List V) (row : List Stp) (hs' ds : List Int), vs = [.ref a, .ref b, .ref r] ∧ H a = some (.lst (iv ns)) ∧ H b = some (.lst (iv ps)) ∧ H r = some (.lst xs) ∧ Tups H xs row ∧ Ok7 ns ∧ row.length ≤ 90000 ∧ Run (pickOf ps) ns row hs' ∧ IsWays hs' [] ∧ ds.Perm hs' ∧ ds.Pairwise (· ≥ ·) ∧ told H Q (iv ds)
def spRight : Sp := fun vs H Q _ => ∃ (a b t f r : Addr) (ns ps : List Int) (xs : List V) (row : List Stp) (hs' ds : List Int), vs = [.ref a, .ref b, .ref t] ∧ H a = some (.lst (iv ns)) ∧ H b = some (.lst (iv ps)) ∧ H t = some (.tup [.ref f, .ref r]) ∧ H f = some (.lst (iv ds)) ∧ H r = some (.lst xs) ∧ Tups H xs row ∧ Ok7 ns ∧ wt ns ≤ 90000 ∧ Run (pickOf ps) ns row hs' ∧ IsWays hs' [] ∧ ds.Perm hs' ∧ ds.Pairwise (· ≥ ·) ∧ ∀ H', Same H H' → Q (.bl true) H'
end K07
namespace K07
open PySem L2 SpM Sp
section
variable {P : Program} {w : World} {K : PySem.W.Frag} {mg : Str → Option Value} {base : Heap} {f : Addr} {fd : FuncData} {CS CN CF CT CP CL Pt : Addr}
theorem ok_falling (F : Fun K "falling" "falling" s_falling f fd) (B : Bi mg) 
     : FnOk P w K mg base CX0 1 f fd ["counts"] (spFalling) := by
  refine F.ok sc_falling (fun vs H Q E h => ?_) (fun cdv A outer s H vs Q E hr h => ?_)
  · obtain ⟨c, kvs, hs, rfl, _⟩ := h
    rfl
  obtain ⟨c, kvs, hs, rfl, ec, hk, hz, hf, q⟩ := h
  refine ⟨_, (pss_cons (ps_set (i := 1) sc_falling.nd rfl (Or.inl rfl) (pe_lst pa_nil))
    (pss_cons (ps_for PassesOwn.never rfl (pi_list (psortR B.sorted (pv 0) pe_bl)) (pg_name (i := 2) sc_falling.nd rfl (Or.inl rfl)) (pss_one (ps_expr (pe_bm PySem.F.plainAttrs_list PySem.F.slot_list_extend PySem.F.type_list_extend mt_extend (pv 1) (pa_cons (pe_op op_rep (pe_lst (pa_cons (pv 2) pa_nil)) (pe_dget hr.units1 (pv 0) (pv 2) (fun _ _ => rfl))) pa_nil)))))
    (pss_one (ps_ret (pv 1))))), ?_⟩
  refine rd_start (show start ["counts", "heap", "place"] [_] = [some _, none, none] from rfl) ?_
  walk_at "rh"
  refine newZ (by walk_at "sz") fun l H1 s1 n1 e1 => ?_
  walk_at "rh"
  obtain ⟨ks, nd, hm, src⟩ := hk.src (K := K) (s1 _ _ ec)
  refine rd_sortR src (hf ks nd fun j hj => (hm j).mp hj) fun ms pm pw => new_ fun r H2 s2 n2 e2 => ?_
  have ndm : ms.Nodup := pm.nodup_iff.mpr nd
  have hmm : ∀ j, j ∈ ms ↔ j ∈ hs := fun j => by rw [pm.mem_iff, hm]
  have lr : l ≠ r := ne_of_none e1 n2
  refine forL (xs := iv ms) (fun i σ H3 => ∃ v, σ = [some (.ref c), some (.ref l), v] ∧ Same H H3 ∧ H3 r = some (.lst (iv ms)) ∧ H3 l = some (.lst (iv (reps hs (ms.take i)))))
    (by walk_at "hp") ⟨none, rfl, s1.trans s2, e2, s2 _ _ e1⟩ ?_ ?_ ?_
  · rintro i σ H3 _ ⟨v, rfl, sm, er, el⟩
    exact SqL.of er
  · rintro i x σ H3 hx ⟨v, rfl, sm, er, el⟩
    obtain ⟨y, hy, rfl⟩ := iv_get hx
    have hyh : y ∈ hs := (hmm y).mp (List.mem_of_getElem? hy)
    have cl : hs.count y ≤ 1000 := Nat.le_trans (List.count_le_length) hz
    walk_at "rh"
    refine newZ (by walk_at "sz") fun b H4 s4 n4 e4 => ?_
    walk_at "rh"
    refine rd_dgetK (s4 _ _ (sm _ _ ec)) (hk.get hyh) ?_
    refine rd_repN (n := hs.count y) e4 (by omega) (by simp; omega) ?_
    refine new_ fun b2 H5 s5 n5 e5 => ?_
    have nl : l ≠ b2 := ne_of_none (s4 _ _ el) n5
    have rl : (reps hs (ms.take i)).length + hs.count y ≤ hs.length := reps_len hs ndm hmm hy
    walk_at "rh"
    refine rd_extend (s5 _ _ (s4 _ _ el)) e5 (by rw [len_rep, iv_length]; simp; exact dec_le_size (by omega)) ?_
    walk_at "rh"
    refine ⟨_, rfl, ?_, ?_, ?_⟩
    · walk_at "sm"
    · walk_at "hp"
    · rw [upd_same, reps_step hs hy]
      unfold iv
      rw [List.map_append, List.map_replicate]
      congr 3
      exact rep_one _ _
  · rintro σ H3 ⟨v, rfl, sm, er, el⟩
    walk_at "rh"
    rw [iv_length, List.take_length] at el
    exact q _ (reps_perm hs ndm hmm) (reps_fall hs pw) l H3 sm n1 el
end
end K07

namespace K07
open PySem L2 SpM Sp
section
variable {P : Program} {w : World} {K : PySem.W.Frag} {mg : Str → Option Value} {base : Heap} {f : Addr} {fd : FuncData} {CS CN CF CT CP CL Pt : Addr}
theorem ok_put_in (F : Fun K "put_in" "put_in" s_put_in f fd) (B : Bi mg) 
     : FnOk P w K mg base CX0 1 f fd ["counts", "place"] (spPutIn) := by
  refine F.ok sc_put_in (fun vs H Q E h => ?_) (fun cdv A outer s H vs Q E hr h => ?_)
  · obtain ⟨c, p, kvs, hs, rfl, _⟩ := h
    rfl
  obtain ⟨c, p, kvs, hs, rfl, ec, hk, hz, q⟩ := h
  refine ⟨_, (pss_one (ps_dput hr.units1 (pv 0) (pv 1) (pe_op op_add (pe_dget2 hr.units1 (pv 0) (pv 1) pe_int ⟨rfl, rfl, rfl, rfl⟩) pe_int) rfl)), ?_⟩
  refine rd_start (show start ["counts", "place"] [_, _] = [some _, some _] from rfl) ?_
  walk_at "rh"
  rw [hk.get0 p]
  walk_at "rh"
  refine rd_dput ec (smallL (Nat.le_trans hk.len (by unfold lim; omega))) ?_
  exact q _ (hk.put p)
end
end K07

namespace K07
open PySem L2 SpM Sp
section
variable {P : Program} {w : World} {K : PySem.W.Frag} {mg : Str → Option Value} {base : Heap} {f : Addr} {fd : FuncData} {CS CN CF CT CP CL Pt : Addr}
theorem ok_take_out (F : Fun K "take_out" "take_out" s_take_out f fd) (B : Bi mg) 
     : FnOk P w K mg base CX0 1 f fd ["counts", "place"] (spTakeOut) := by
  refine F.ok sc_take_out (fun vs H Q E h => ?_) (fun cdv A outer s H vs Q E hr h => ?_)
  · obtain ⟨c, p, kvs, hs, rfl, _⟩ := h
    rfl
  obtain ⟨c, p, kvs, hs, rfl, ec, hk, hz, hp, q⟩ := h
  refine ⟨_, (pss_cons (ps_dput hr.units1 (pv 0) (pv 1) (pe_op op_sub (pe_dget hr.units1 (pv 0) (pv 1) (fun _ _ => rfl)) pe_int) rfl)
    (pss_one (ps_if (pt_cmpR op_eq (pe_dget hr.units1 (pv 0) (pv 1) (fun _ _ => rfl)) pe_int (nomark _)) (pss_one (ps_expr (pe_dpop1 (pv 0) (pv 1) ⟨rfl, rfl, rfl, rfl⟩))) pss_nil))), ?_⟩
  refine rd_start (show start ["counts", "place"] [_, _] = [some _, some _] from rfl) ?_
  walk_at "rh"
  refine rd_dgetK ec (hk.get hp) ?_
  walk_at "rh"
  refine rd_dput ec (smallL (Nat.le_trans hk.len (by unfold lim; omega))) ?_
  have c1 : 1 ≤ hs.count p := List.count_pos_iff.mpr hp
  have e2 : (upd H c (.dK (putK kvs (.inl p) (.int ((hs.count p : Nat) - 1))))) c = some (.dK (putK kvs (.inl p) (.int ((hs.count p : Nat) - 1)))) := upd_same
  have e3 : valV (putK kvs (.inl p) (.int ((hs.count p : Nat) - 1))) (.inl p) = some (.int ((hs.count p : Nat) - 1)) := by rw [valV_put, if_pos rfl]
  walk_at "rh"
  refine rd_dgetK e2 e3 ?_
  walk_at "rh"
  refine if_d (fun d => ?_) fun d => ?_
  · walk_at "rh"
    refine rd_dpop e2 e3 ?_
    walk_at "rh"
    rw [upd_upd]
    exact q _ (hk.out (by omega) _)
  · walk_at "rh"
    exact q _ (hk.dec (by omega))
end
end K07

namespace K07
open PySem L2 SpM Sp
section
variable {P : Program} {w : World} {K : PySem.W.Frag} {mg : Str → Option Value} {base : Heap} {f : Addr} {fd : FuncData} {CS CN CF CT CP CL Pt : Addr}
theorem ok_steps_among (F : Fun K "steps_among" "steps_among" s_steps_among f fd) (B : Bi mg) 
     : FnOk P w K mg base CX0 1 f fd ["counts"] (spAmong) := by
  refine F.ok sc_steps_among (fun vs H Q E h => ?_) (fun cdv A outer s H vs Q E hr h => ?_)
  · obtain ⟨c, kvs, hs, rfl, _⟩ := h
    rfl
  obtain ⟨c, kvs, hs, rfl, ec, hk, hz, hf, q⟩ := h
  refine ⟨_, (pss_cons (ps_set (i := 1) sc_steps_among.nd rfl (Or.inl rfl) (pe_lst pa_nil))
    (pss_cons (ps_for PassesOwn.never rfl (pi_list (psort B.sorted (pv 0))) (pg_name (i := 2) sc_steps_among.nd rfl (Or.inl rfl)) (pss_cons (ps_if (pt_cmpR op_ge (pe_dget hr.units1 (pv 0) (pv 2) (fun _ _ => rfl)) pe_int (nomark _)) (pss_one (ps_expr (pe_bm PySem.F.plainAttrs_list PySem.F.slot_list_append PySem.F.type_list_append mt_append (pv 1) (pa_cons (pe_tup (pa_cons pe_str (pa_cons (pv 2) pa_nil))) pa_nil)))) pss_nil)
    (pss_one (ps_if (pt_cmp (pc_din hr.units1 (pe_op op_add (pv 2) pe_int) (pv 0)) rfl) (pss_one (ps_expr (pe_bm PySem.F.plainAttrs_list PySem.F.slot_list_append PySem.F.type_list_append mt_append (pv 1) (pa_cons (pe_tup (pa_cons pe_str (pa_cons (pv 2) pa_nil))) pa_nil)))) pss_nil))))
    (pss_one (ps_ret (pv 1))))), ?_⟩
  refine rd_start (show start ["counts", "found", "place"] [_] = [some _, none, none] from rfl) ?_
  walk_at "rh"
  refine newZ (by walk_at "sz") fun l H1 s1 n1 e1 => ?_
  walk_at "rh"
  obtain ⟨ks, nd, hm, src⟩ := hk.src (K := K) (s1 _ _ ec)
  refine rd_sort src (hf ks nd fun j hj => (hm j).mp hj) fun ms pm pw => new_ fun r H2 s2 n2 e2 => ?_
  have ndm : ms.Nodup := pm.nodup_iff.mpr nd
  have hmm : ∀ j, j ∈ ms ↔ j ∈ hs := fun j => by rw [pm.mem_iff, hm]
  have lr : l ≠ r := ne_of_none e1 n2
  have mz : ms.length ≤ 1000 := Nat.le_trans (List.Nodup.length_le_of_subset ndm fun j hj => (hmm j).mp hj) hz
  refine forL (xs := iv ms) (fun i σ H3 => ∃ v xs, σ = [some (.ref c), some (.ref l), v] ∧ Same H H3 ∧ H3 r = some (.lst (iv ms)) ∧ H3 l = some (.lst xs) ∧ Tups H3 xs (waysOf hs (ms.take i)))
    (by walk_at "hp") ⟨none, [], rfl, s1.trans s2, e2, s2 _ _ e1, .nil⟩ ?_ ?_ ?_
  · rintro i σ H3 _ ⟨v, xs, rfl, sm, er, el, tp⟩
    exact SqL.of er
  · rintro i x σ H3 hx ⟨v, xs, rfl, sm, er, el, tp⟩
    obtain ⟨y, hy, rfl⟩ := iv_get hx
    have hyh : y ∈ hs := (hmm y).mp (List.mem_of_getElem? hy)
    have il : i < ms.length := (List.getElem?_eq_some_iff.mp hy).1
    have ln := waysOf_len hs (ms.take i)
    rw [List.length_take] at ln
    have lx := tp.length
    have stp : waysOf hs (ms.take (i + 1)) = waysOf hs (ms.take i) ++ ((if 2 ≤ hs.count y then [(false, y)] else []) ++ (if y + 1 ∈ hs then [(true, y)] else [])) := waysOf_step hs hy
    refine rd_seqK (fun σ4 H4 => ∃ xs4, σ4 = [some (.ref c), some (.ref l), some (.int y)] ∧ Same H H4 ∧ H4 r = some (.lst (iv ms)) ∧ H4 l = some (.lst xs4) ∧ Tups H4 xs4 (waysOf hs (ms.take i) ++ (if 2 ≤ hs.count y then [(false, y)] else []))) ?_ fun key => ?_
    · rintro σ4 H4 ⟨xs4, rfl, sm4, er4, el4, tp4⟩
      have l4 := tp4.length
      have l5 : (waysOf hs (ms.take i) ++ (if 2 ≤ hs.count y then [(false, y)] else [])).length ≤ 2 * i + 1 := by
        rw [List.length_append]
        split <;> simp <;> omega
      walk_at "rh"
      rw [hk.has]
      refine if_d (fun d => ?_) fun d => ?_
      · rw [if_pos d] at stp
        walk_at "rh"
        refine newZ (by walk_at "sz") fun t H5 s5 n5 e5 => ?_
        walk_at "rh"
        refine rd_append (s5 _ _ el4) (smallL (by unfold lim; omega)) ?_
        walk_at "rh"
        refine ⟨_, _, rfl, by walk_at "sm", by walk_at "hp", upd_same, ?_⟩
        rw [stp, ← List.append_assoc]
        exact ((tp4.same s5).append (.cons (s := (true, y)) e5 .nil)).put (s5 _ _ el4)
      · rw [if_neg d, List.append_nil] at stp
        walk_at "rh"
        exact ⟨_, _, rfl, sm4, er4, el4, by rw [stp]; exact tp4⟩
    walk_at "rh"
    refine rd_dgetK (sm _ _ ec) (hk.get hyh) ?_
    walk_at "rh"
    refine if_d (fun d => ?_) fun d => ?_
    · walk_at "rh"
      refine newZ (by walk_at "sz") fun t H5 s5 n5 e5 => ?_
      walk_at "rh"
      refine rd_append (s5 _ _ el) (smallL (by unfold lim; omega)) ?_
      refine key _ _ ⟨_, rfl, by walk_at "sm", by walk_at "hp", upd_same, ?_⟩
      rw [if_pos (by omega)]
      exact ((tp.same s5).append (.cons (s := (false, y)) e5 .nil)).put (s5 _ _ el)
    · refine rd_next ?_
      refine key _ _ ⟨_, rfl, sm, er, el, ?_⟩
      rw [if_neg (by omega), List.append_nil]
      exact tp
  · rintro σ H3 ⟨v, xs, rfl, sm, er, el, tp⟩
    walk_at "rh"
    rw [iv_length, List.take_length] at tp
    exact q _ ⟨ms, lt_of_le_nd pw ndm, hmm, rfl⟩ l xs H3 sm n1 el tp
end
end K07

namespace K07
open PySem L2 SpM Sp
section
variable {P : Program} {w : World} {K : PySem.W.Frag} {mg : Str → Option Value} {base : Heap} {f : Addr} {fd : FuncData} {CS CN CF CT CP CL Pt : Addr}
theorem ok_marks_that_go (F : Fun K "marks_that_go" "marks_that_go" s_marks_that_go f fd) (B : Bi mg) 
     : FnOk P w K mg base CX0 1 f fd ["step"] (spGo) := by
  refine F.ok sc_marks_that_go (fun vs H Q E h => ?_) (fun cdv A outer s H vs Q E hr h => ?_)
  · obtain ⟨t, s1, rfl, _⟩ := h
    rfl
  obtain ⟨t, s1, rfl, et, q⟩ := h
  refine ⟨_, (pss_cons (ps_set (i := 1) sc_marks_that_go.nd rfl (Or.inl rfl) (pe_ix ix_tup (pv 0) pe_int (fun _ _ => rfl)))
    (pss_cons (ps_if (pt_cmpR op_eq (pe_ix ix_tup (pv 0) pe_int (fun _ _ => rfl)) pe_str (nomark _)) (pss_one (ps_ret (pe_lst (pa_cons (pv 1) (pa_cons (pe_op op_add (pv 1) pe_int) pa_nil))))) pss_nil)
    (pss_one (ps_ret (pe_lst (pa_cons (pv 1) (pa_cons (pv 1) pa_nil))))))), ?_⟩
  refine rd_start (show start ["step", "place"] [_] = [some _, none] from rfl) ?_
  obtain ⟨b, p⟩ := s1
  have a0 : atI [V.str (txt b), V.int p] 0 = some (.str (txt b)) := atI_nat (j := 0) rfl
  have a1 : atI [V.str (txt b), V.int p] 1 = some (.int p) := atI_nat (j := 1) rfl
  have e0 : SqT K H t [V.str (txt b), V.int p] := SqT.of et
  walk_at "rh"
  cases b with
  | true =>
    refine if_dT rfl ?_
    walk_at "rh"
    exact newZ (by walk_at "sz") fun r H' s' n' e' => q r H' s' n' e'
  | false =>
    refine if_dF (by decide) ?_
    walk_at "rh"
    exact newZ (by walk_at "sz") fun r H' s' n' e' => q r H' s' n' e'
end
end K07

namespace K07
open PySem L2 SpM Sp
section
variable {P : Program} {w : World} {K : PySem.W.Frag} {mg : Str → Option Value} {base : Heap} {f : Addr} {fd : FuncData} {CS CN CF CT CP CL Pt : Addr}
theorem ok_marks_that_come (F : Fun K "marks_that_come" "marks_that_come" s_marks_that_come f fd) (B : Bi mg) 
     : FnOk P w K mg base CX0 1 f fd ["step"] (spCome) := by
  refine F.ok sc_marks_that_come (fun vs H Q E h => ?_) (fun cdv A outer s H vs Q E hr h => ?_)
  · obtain ⟨t, s1, rfl, _⟩ := h
    rfl
  obtain ⟨t, s1, rfl, et, q⟩ := h
  refine ⟨_, (pss_cons (ps_set (i := 1) sc_marks_that_come.nd rfl (Or.inl rfl) (pe_ix ix_tup (pv 0) pe_int (fun _ _ => rfl)))
    (pss_cons (ps_if (pt_cmpR op_eq (pe_ix ix_tup (pv 0) pe_int (fun _ _ => rfl)) pe_str (nomark _)) (pss_one (ps_ret (pe_lst (pa_cons (pe_op op_add (pv 1) pe_int) pa_nil)))) pss_nil)
    (pss_cons (ps_if (pt_cmpR op_eq (pv 1) pe_int (nomark _)) (pss_one (ps_ret (pe_lst (pa_cons pe_int pa_nil)))) pss_nil)
    (pss_cons (ps_if (pt_cmpR op_eq (pv 1) pe_int (nomark _)) (pss_one (ps_ret (pe_lst (pa_cons pe_int (pa_cons pe_int pa_nil))))) pss_nil)
    (pss_one (ps_ret (pe_lst (pa_cons (pe_op op_add (pv 1) pe_int) (pa_cons (pe_op op_sub (pv 1) pe_int) pa_nil))))))))), ?_⟩
  refine rd_start (show start ["step", "place"] [_] = [some _, none] from rfl) ?_
  obtain ⟨b, p⟩ := s1
  have a0 : atI [V.str (txt b), V.int p] 0 = some (.str (txt b)) := atI_nat (j := 0) rfl
  have a1 : atI [V.str (txt b), V.int p] 1 = some (.int p) := atI_nat (j := 1) rfl
  have e0 : SqT K H t [V.str (txt b), V.int p] := SqT.of et
  walk_at "rh"
  cases b with
  | true =>
    refine if_dT rfl ?_
    walk_at "rh"
    exact newZ (by walk_at "sz") fun r H' s' n' e' => q r H' s' n' e'
  | false =>
    refine if_dF (by decide) ?_
    walk_at "rh"
    unfold comeS at q
    simp only [Bool.false_eq_true, if_false] at q
    refine if_d (fun c => ?_) fun c => ?_
    · rw [if_pos c] at q
      walk_at "rh"
      exact newZ (by walk_at "sz") fun r H' s' n' e' => q r H' s' n' e'
    · rw [if_neg c] at q
      walk_at "rh"
      refine if_d (fun c2 => ?_) fun c2 => ?_
      · rw [if_pos c2] at q
        walk_at "rh"
        exact newZ (by walk_at "sz") fun r H' s' n' e' => q r H' s' n' e'
      · rw [if_neg c2] at q
        walk_at "rh"
        exact newZ (by walk_at "sz") fun r H' s' n' e' => q r H' s' n' e'
end
end K07

namespace K07
open PySem L2 SpM Sp
section
variable {P : Program} {w : World} {K : PySem.W.Frag} {mg : Str → Option Value} {base : Heap} {f : Addr} {fd : FuncData} {CS CN CF CT CP CL Pt : Addr}
theorem ok__law_cell_at (F : Fun K "_law_cell_at" "_law_cell_at" s__law_cell_at f fd) (B : Bi mg) 
     : FnOk P w K mg base CX0 1 f fd ["_law_script", "_law_k"] (spCell K) := by
  refine F.ok sc__law_cell_at (fun vs H Q E h => ?_) (fun cdv A outer s H vs Q E hr h => ?_)
  · obtain ⟨a, ns, k, rfl, _⟩ := h
    rfl
  obtain ⟨a, ns, k, rfl, hS, q⟩ := h
  refine ⟨_, (pss_cons (ps_if (pt_cmpR op_lt (pv 1) (plen B.len (pv 0)) (nomark _)) (pss_one (ps_ret (pe_ix ix_list (pv 0) (pv 1) (fun _ _ => rfl)))) pss_nil)
    (pss_one (ps_ret pe_int))), ?_⟩
  refine rd_start (show start ["_law_script", "_law_k"] [_, _] = [some _, some _] from rfl) ?_
  refine ⟨_, rfl, _, rfl, a, _, rfl, .inl hS, _, _, rfl, rfl, _, rfl, ?_⟩
  rw [List.length_map]
  refine ite2 (fun c => ?_) fun c => ?_
  · have c' : (k : Int) < (ns.length : Int) := of_decide_eq_true c
    have hk : k < ns.length := by omega
    refine ⟨_, rfl, _, rfl, a, _, _, _, rfl, rfl, hS, atI_nat (v := .int (ns.getD k 0)) ?_, q⟩
    rw [List.getElem?_map, List.getElem?_eq_getElem hk]
    simp [List.getD, hk]
  · have c' : ¬ (k : Int) < (ns.length : Int) := of_decide_eq_false (Bool.eq_false_iff.mpr c)
    have z : ns.getD k 0 = 0 := by simp [List.getD, List.getElem?_eq_none (show ns.length ≤ k by omega)]
    rw [z] at q
    exact q
end
end K07

namespace K07
open PySem L2 SpM Sp
section
variable {P : Program} {w : World} {K : PySem.W.Frag} {mg : Str → Option Value} {base : Heap} {f : Addr} {fd : FuncData} {CS CN CF CT CP CL Pt : Addr}
theorem ok__law_whole (F : Fun K "_law_whole" "_law_whole" s__law_whole f fd) (B : Bi mg) 
     : FnOk P w K mg base CX0 1 f fd ["_law_found"] (spLWhole K) := by
  refine F.ok sc__law_whole (fun vs H Q E h => ?_) (fun cdv A outer s H vs Q E hr h => ?_)
  · obtain ⟨x, rfl, _⟩ := h
    rfl
  obtain ⟨x, rfl, th, q⟩ := h
  refine ⟨_, (pss_one (ps_ret (pe_and (pisi B.isi (pv 0) (ptype B.int PyProof.Rows.Boot.«int»)) (pe_one (pe_not (pisi B.isi (pv 0) (ptype B.bool PyProof.Rows.Boot.«bool»))))))), ?_⟩
  refine rd_start (show start ["_law_found"] [_] = [some _] from rfl) ?_
  obtain ⟨t1, y1, k1⟩ := th.isInt
  obtain ⟨t2, y2, k2⟩ := th.isBl
  refine ⟨_, rfl, _, _, _, t1, _, rfl, rfl, y1, k1, _, rfl, ?_⟩
  cases e : isIntV x with
  | true =>
    refine iteT ⟨_, rfl, _, _, _, t2, _, rfl, rfl, y2, k2, _, rfl, ?_⟩
    rw [e] at q
    exact q
  | false =>
    rw [e] at q
    exact iteF q
end
end K07

namespace K07
open PySem L2 SpM Sp
section
variable {P : Program} {w : World} {K : PySem.W.Frag} {mg : Str → Option Value} {base : Heap} {f : Addr} {fd : FuncData} {CS CN CF CT CP CL Pt : Addr}
theorem ok__law_members (F : Fun K "_law_members" "_law_members" s__law_members f fd) (B : Bi mg) 
     : FnOk P w K mg base CX0 1 f fd ["_law_many"] (spMembers K) := by
  refine F.ok sc__law_members (fun vs H Q E h => ?_) (fun cdv A outer s H vs Q E hr h => ?_)
  · obtain ⟨n, rfl, _⟩ := h
    rfl
  obtain ⟨n, rfl, hn, q⟩ := h
  refine ⟨_, (pss_cons (ps_set (i := 1) sc__law_members.nd rfl (Or.inl rfl) (pe_lst pa_nil))
    (pss_cons (ps_set (i := 2) sc__law_members.nd rfl (Or.inl rfl) pe_int)
    (pss_cons (ps_set (i := 3) sc__law_members.nd rfl (Or.inl rfl) pe_int)
    (pss_cons (ps_for PassesOwn.never rfl (pi_range1 rfl B.range (pa_cons (pv 0) pa_nil)) (pg_name (i := 4) sc__law_members.nd rfl (Or.inl rfl)) (pss_cons (ps_expr (pe_bm PySem.F.plainAttrs_list PySem.F.slot_list_append PySem.F.type_list_append mt_append (pv 1) (pa_cons (pv 2) pa_nil)))
    (pss_one (ps_par (i := 2) (j := 3) rfl sc__law_members.nd rfl rfl (by decide) rfl rfl (pa_cons (pv 3) (pa_cons (pe_op op_add (pv 2) (pv 3)) pa_nil)) rfl))))
    (pss_one (ps_ret (pv 1))))))), ?_⟩
  refine rd_start (show start ["_law_many", "_law_row", "_law_one", "_law_other", "_law_k"] [_] = [some _, none, none, none, none] from rfl) ?_
  refine ⟨by show 0 ≤ sizeLine; decide, fun p hp => ?_⟩
  refine ⟨_, rfl, n, rfl, by omega, by unfold lim at hn; omega, for_range (fun i σ H1 => ∃ v, σ = [some (.int n), some (.ref p), some (.int (mem i)), some (.int (mem (i + 1))), v] ∧ Same H H1 ∧ H1 p = some (.lst (rowV i))) ⟨none, rfl, same_new hp _, upd_same⟩ ?_ ?_⟩
  · rintro i σ H1 hi ⟨v, rfl, sm, e⟩
    refine ⟨_, rfl, .inl ⟨rfl, _, SqL.of e⟩, _, rfl, p, _, _, rfl, rfl, e, ?_, ?_⟩
    · rw [rowV_length]
      exact smallL (by unfold lim at hn ⊢; omega)
    refine ⟨_, rfl, _, rfl, _, rfl, _, _, rfl, rfl, _, _, rfl, ?_⟩
    refine ⟨some (.int (0 + i)), ?_, fun b o z => ?_, ?_⟩
    · rw [mem_ss, Int.add_comm (mem (i + 1))]
      rfl
    · rw [upd_ne (ne_of_none z hp)]
      exact sm b o z
    · rw [upd_same]
      unfold rowV
      rw [row_succ, List.map_append]
      rfl
  · rintro σ H1 ⟨v, rfl, sm, e⟩
    exact ⟨_, rfl, q p H1 sm hp e⟩
end
end K07

namespace K07
open PySem L2 SpM Sp
section
variable {P : Program} {w : World} {K : PySem.W.Frag} {mg : Str → Option Value} {base : Heap} {f : Addr} {fd : FuncData} {CS CN CF CT CP CL Pt : Addr}
theorem ok__law_weight (F : Fun K "_law_weight" "_law_weight" s__law_weight f fd) (B : Bi mg) 
     : FnOk P w K mg base CX0 1 f fd ["_law_heap"] (spWeight) := by
  refine F.ok sc__law_weight (fun vs H Q E h => ?_) (fun cdv A outer s H vs Q E hr h => ?_)
  · obtain ⟨a, ns, rfl, _⟩ := h
    rfl
  obtain ⟨a, ns, rfl, ea, hz, q⟩ := h
  refine ⟨_, (pss_one (ps_ret (psum B.sum (pe_comp (own := ["_law_place"]) (fn := []) (fr := []) rfl ⟨rfl, by decide +kernel, rfl, by decide +kernel, List.forall_mem_nil _, by decide +kernel, List.forall_mem_nil _, rfl, List.forall_mem_nil _⟩ (pi_list (pv 0)) (fun _ _ _ _ => (pg_name (i := 0) (show (["_law_place"] : List Str).Nodup by decide +kernel) rfl (Or.inl rfl))) (fun _ _ _ _ => pts_nil) (fun _ _ _ _ => (pe_op op_sub (pe_op op_add pe_int (pe_op op_mul pe_int (pv 0))) (pint B.int (pe_cmpR op_eq (pv 0) pe_int (nomark _))))))))), ?_⟩
  refine rd_start (show start ["_law_heap"] [_] = [some _] from rfl) ?_
  walk_at "rh"
  refine compI (fun p => .int (wt1 p)) (SqL.of ea) (by omega) rfl (fun n hn H1 s1 R hR => ?_) fun D H2 s2 n2 e2 => ?_
  · walk_at "rh"
    have e : wt1 n = 6 + 3 * n - (if (decide (n = 0)) = true then 1 else 0) := by
      unfold wt1
      by_cases c : n = 0
      · rw [if_pos c, if_pos (decide_eq_true c)]; omega
      · rw [if_neg c, if_neg (by simpa using c)]; omega
    have z := hR _ (Same.refl _)
    rw [e] at z
    exact z
  · walk_at "rh"
    refine rd_sum (ns := ns.map wt1) (SqL.of (by rw [e2, List.map_map]; rfl)) ?_
    exact q H2 s2
end
end K07

namespace K07
open PySem L2 SpM Sp
section
variable {P : Program} {w : World} {K : PySem.W.Frag} {mg : Str → Option Value} {base : Heap} {f : Addr} {fd : FuncData} {CS CN CF CT CP CL Pt : Addr}
theorem ok__law_ways (F : Fun K "_law_ways" "_law_ways" s__law_ways f fd) (B : Bi mg) 
     : FnOk P w K mg base CX0 1 f fd ["_law_heap"] (spSteps) := by
  refine F.ok sc__law_ways (fun vs H Q E h => ?_) (fun cdv A outer s H vs Q E hr h => ?_)
  · obtain ⟨a, ns, rfl, _⟩ := h
    rfl
  obtain ⟨a, ns, rfl, ea, hz, hf, q⟩ := h
  refine ⟨_, (pss_cons (ps_set (i := 1) sc__law_ways.nd rfl (Or.inl rfl) (pe_lst pa_nil))
    (pss_cons (ps_for PassesOwn.never rfl (pi_list (psortSet B.sorted B.set (pv 0))) (pg_name (i := 2) sc__law_ways.nd rfl (Or.inl rfl)) (pss_cons (ps_if (pt_cmpR op_ge (pe_bm PySem.F.plainAttrs_list PySem.F.slot_list_count PySem.F.type_list_count mt_count (pv 0) (pa_cons (pv 2) pa_nil)) pe_int (nomark _)) (pss_one (ps_expr (pe_bm PySem.F.plainAttrs_list PySem.F.slot_list_append PySem.F.type_list_append mt_append (pv 1) (pa_cons (pe_tup (pa_cons pe_str (pa_cons (pv 2) pa_nil))) pa_nil)))) pss_nil)
    (pss_one (ps_if (pt_cmpR op_ge (pe_bm PySem.F.plainAttrs_list PySem.F.slot_list_count PySem.F.type_list_count mt_count (pv 0) (pa_cons (pe_op op_add (pv 2) pe_int) pa_nil)) pe_int (nomark _)) (pss_one (ps_expr (pe_bm PySem.F.plainAttrs_list PySem.F.slot_list_append PySem.F.type_list_append mt_append (pv 1) (pa_cons (pe_tup (pa_cons pe_str (pa_cons (pv 2) pa_nil))) pa_nil)))) pss_nil))))
    (pss_one (ps_ret (pv 1))))), ?_⟩
  refine rd_start (show start ["_law_heap", "_law_found", "_law_place"] [_] = [some _, none, none] from rfl) ?_
  walk_at "rh"
  refine newZ (by walk_at "sz") fun l H1 s1 n1 e1 => ?_
  walk_at "rh"
  refine rd_sortSet (ns := ns) (by walk_at "hp") hz hf fun ms pw hmm => new_ fun r H2 s2 n2 e2 => ?_
  have ndm : ms.Nodup := pw.imp fun h => Int.ne_of_lt h
  have lr : l ≠ r := ne_of_none e1 n2
  have nal : a ≠ l := ne_of_none ea n1
  have mz : ms.length ≤ 1000 := Nat.le_trans (List.Nodup.length_le_of_subset ndm fun j hj => (hmm j).mp hj) hz
  refine forL (xs := iv ms) (fun i σ H3 => ∃ v xs, σ = [some (.ref a), some (.ref l), v] ∧ Same H H3 ∧ H3 r = some (.lst (iv ms)) ∧ H3 l = some (.lst xs) ∧ Tups H3 xs (waysOf ns (ms.take i)))
    (by walk_at "hp") ⟨none, [], rfl, s1.trans s2, e2, s2 _ _ e1, .nil⟩ ?_ ?_ ?_
  · rintro i σ H3 _ ⟨v, xs, rfl, sm, er, el, tp⟩
    exact SqL.of er
  · rintro i x σ H3 hx ⟨v, xs, rfl, sm, er, el, tp⟩
    obtain ⟨y, hy, rfl⟩ := iv_get hx
    have il : i < ms.length := (List.getElem?_eq_some_iff.mp hy).1
    have ln := waysOf_len ns (ms.take i)
    rw [List.length_take] at ln
    have lx := tp.length
    have stp : waysOf ns (ms.take (i + 1)) = waysOf ns (ms.take i) ++ ((if 2 ≤ ns.count y then [(false, y)] else []) ++ (if y + 1 ∈ ns then [(true, y)] else [])) := waysOf_step ns hy
    refine rd_seqK (fun σ4 H4 => ∃ xs4, σ4 = [some (.ref a), some (.ref l), some (.int y)] ∧ Same H H4 ∧ H4 r = some (.lst (iv ms)) ∧ H4 l = some (.lst xs4) ∧ Tups H4 xs4 (waysOf ns (ms.take i) ++ (if 2 ≤ ns.count y then [(false, y)] else []))) ?_ fun key => ?_
    · rintro σ4 H4 ⟨xs4, rfl, sm4, er4, el4, tp4⟩
      have l4 := tp4.length
      have l5 : (waysOf ns (ms.take i) ++ (if 2 ≤ ns.count y then [(false, y)] else [])).length ≤ 2 * i + 1 := by
        rw [List.length_append]
        split <;> simp <;> omega
      have ea4 : SqL K H4 a (ns.map V.int) := SqL.of (sm4 _ _ ea)
      walk_at "rh"
      refine if_d (fun d => ?_) fun d => ?_
      · have d' : y + 1 ∈ ns := List.count_pos_iff.mp (by omega)
        rw [if_pos d'] at stp
        walk_at "rh"
        refine newZ (by walk_at "sz") fun t H5 s5 n5 e5 => ?_
        walk_at "rh"
        refine rd_append (s5 _ _ el4) (smallL (by unfold lim; omega)) ?_
        walk_at "rh"
        refine ⟨_, _, rfl, by walk_at "sm", by walk_at "hp", upd_same, ?_⟩
        rw [stp, ← List.append_assoc]
        exact ((tp4.same s5).append (.cons (s := (true, y)) e5 .nil)).put (s5 _ _ el4)
      · have d' : ¬ y + 1 ∈ ns := fun z => by have := List.count_pos_iff.mpr z; omega
        rw [if_neg d', List.append_nil] at stp
        walk_at "rh"
        exact ⟨_, _, rfl, sm4, er4, el4, by rw [stp]; exact tp4⟩
    have ea3 : SqL K H3 a (ns.map V.int) := SqL.of (sm _ _ ea)
    walk_at "rh"
    refine if_d (fun d => ?_) fun d => ?_
    · walk_at "rh"
      refine newZ (by walk_at "sz") fun t H5 s5 n5 e5 => ?_
      walk_at "rh"
      refine rd_append (s5 _ _ el) (smallL (by unfold lim; omega)) ?_
      refine key _ _ ⟨_, rfl, by walk_at "sm", by walk_at "hp", upd_same, ?_⟩
      rw [if_pos (by omega)]
      exact ((tp.same s5).append (.cons (s := (false, y)) e5 .nil)).put (s5 _ _ el)
    · refine rd_next ?_
      refine key _ _ ⟨_, rfl, sm, er, el, ?_⟩
      rw [if_neg (by omega), List.append_nil]
      exact tp
  · rintro σ H3 ⟨v, xs, rfl, sm, er, el, tp⟩
    walk_at "rh"
    rw [iv_length, List.take_length] at tp
    exact q _ ⟨ms, pw, hmm, rfl⟩ l xs H3 sm n1 el tp
end
end K07

namespace K07
open PySem L2 SpM Sp
section
variable {P : Program} {w : World} {K : PySem.W.Frag} {mg : Str → Option Value} {base : Heap} {f : Addr} {fd : FuncData} {CS CN CF CT CP CL Pt : Addr}
theorem ok__law_behind (F : Fun K "_law_behind" "_law_behind" s__law_behind f fd) (B : Bi mg) 
     : FnOk P w K mg base CX0 1 f fd ["_law_heap", "_law_step"] (spBehind) := by
  refine F.ok sc__law_behind (fun vs H Q E h => ?_) (fun cdv A outer s H vs Q E hr h => ?_)
  · obtain ⟨a, t, ns, s1, rfl, _⟩ := h
    rfl
  obtain ⟨a, t, ns, s1, rfl, ea, et, hz, hc, h0, q⟩ := h
  refine ⟨_, (pss_cons (ps_set (i := 2) sc__law_behind.nd rfl (Or.inl rfl) (plist B.list (pv 0)))
    (pss_cons (ps_set (i := 3) sc__law_behind.nd rfl (Or.inl rfl) (pe_ix ix_tup (pv 1) pe_int (fun _ _ => rfl)))
    (pss_cons (ps_expr (pe_bm PySem.F.plainAttrs_list PySem.F.slot_list_remove PySem.F.type_list_remove mt_remove (pv 2) (pa_cons (pv 3) pa_nil)))
    (pss_cons (ps_if (pt_cmpR op_eq (pe_ix ix_tup (pv 1) pe_int (fun _ _ => rfl)) pe_str (nomark _)) (pss_cons (ps_expr (pe_bm PySem.F.plainAttrs_list PySem.F.slot_list_remove PySem.F.type_list_remove mt_remove (pv 2) (pa_cons (pe_op op_add (pv 3) pe_int) pa_nil)))
    (pss_one (ps_ret (pe_op op_cat (pv 2) (pe_lst (pa_cons (pe_op op_add (pv 3) pe_int) pa_nil)))))) pss_nil)
    (pss_cons (ps_expr (pe_bm PySem.F.plainAttrs_list PySem.F.slot_list_remove PySem.F.type_list_remove mt_remove (pv 2) (pa_cons (pv 3) pa_nil)))
    (pss_cons (ps_if (pt_cmpR op_eq (pv 3) pe_int (nomark _)) (pss_one (ps_ret (pe_op op_cat (pv 2) (pe_lst (pa_cons pe_int pa_nil))))) pss_nil)
    (pss_one (ps_ret (pe_op op_cat (pv 2) (pe_lst (pa_cons (pe_op op_add (pv 3) pe_int) (pa_cons (pmax2 B.max pe_int (pe_op op_sub (pv 3) pe_int)) pa_nil)))))))))))), ?_⟩
  refine rd_start (show start ["_law_heap", "_law_step", "_law_marks", "_law_at"] [_, _] = [some _, some _, none, none] from rfl) ?_
  obtain ⟨b, p⟩ := s1
  obtain ⟨h1, h2⟩ := hc
  have h0' : 0 ≤ p := h0
  have e0 : SqT K H t [V.str (txt b), V.int p] := SqT.of et
  have lz := List.length_erase_le (a := p) (l := ns)
  have lz2 := List.length_erase_le (a := goQ (b, p)) (l := ns.erase p)
  walk_at "rh"
  refine new_ fun m H1 s1 n1 e1 => ?_
  have e01 : SqT K H1 t [V.str (txt b), V.int p] := SqT.of (s1 _ _ et)
  have nt : t ≠ m := ne_of_none et n1
  walk_at "rh"
  refine rd_remove (ns := ns) e1 h1 ?_
  have e2 : upd H1 m (.lst ((ns.erase p).map V.int)) m = some (.lst ((ns.erase p).map V.int)) := upd_same
  have s2 : Same H (upd H1 m (.lst ((ns.erase p).map V.int))) := same_put n1 s1 _
  generalize upd H1 m (.lst ((ns.erase p).map V.int)) = H2 at e2 s2 ⊢
  have e02 : SqT K H2 t [V.str (txt b), V.int p] := SqT.of (s2 _ _ et)
  walk_at "rh"
  cases b with
  | true =>
    refine if_dT rfl ?_
    walk_at "rh"
    refine rd_remove (ns := ns.erase p) e2 h2 ?_
    have e3 : upd H2 m (.lst (((ns.erase p).erase (p + 1)).map V.int)) m = some (.lst (((ns.erase p).erase (p + 1)).map V.int)) := upd_same
    have s3 : Same H (upd H2 m (.lst (((ns.erase p).erase (p + 1)).map V.int))) := same_put n1 s2 _
    generalize upd H2 m (.lst (((ns.erase p).erase (p + 1)).map V.int)) = H3 at e3 s3 ⊢
    walk_at "rh"
    refine newZ (by walk_at "sz") fun b H4 s4 n4 e4 => ?_
    refine rd_cat (s4 _ _ e3) e4 ?_ (new_ fun r H5 s5 n5 e5 => ?_)
    · simp only [List.length_map, List.length_cons, List.length_nil]
      exact dec_le_size (by have : goQ (true, p) = p + 1 := rfl; rw [this] at lz2; omega)
    refine q r H5 (by walk_at "sm") (s3.free (s4.free n5)) ?_
    rw [e5]
    show _ = some (HO.lst (iv (((ns.erase p).erase (p + 1)) ++ [p + 2])))
    unfold iv
    rw [List.map_append]
    rfl
  | false =>
    refine if_dF (by decide) ?_
    walk_at "rh"
    refine rd_remove (ns := ns.erase p) e2 h2 ?_
    have e3 : upd H2 m (.lst (((ns.erase p).erase p).map V.int)) m = some (.lst (((ns.erase p).erase p).map V.int)) := upd_same
    have s3 : Same H (upd H2 m (.lst (((ns.erase p).erase p).map V.int))) := same_put n1 s2 _
    generalize upd H2 m (.lst (((ns.erase p).erase p).map V.int)) = H3 at e3 s3 ⊢
    have lz3 : ((ns.erase p).erase p).length ≤ 1000 := by have : goQ (false, p) = p := rfl; rw [this] at lz2; omega
    have fin : ∀ (cs : List Int) (H5 : Hp) r, comeS (false, p) = cs → Same H H5 → H r = none → H5 r = some (.lst (((ns.erase p).erase p).map V.int ++ iv cs)) → Q (.ref r) H5 := fun cs H5 r ec s5 n5 e5 => by
      refine q r H5 s5 n5 ?_
      rw [e5]
      show _ = some (HO.lst (iv (((ns.erase p).erase p) ++ comeS (false, p))))
      unfold iv
      rw [List.map_append, ec]
    walk_at "rh"
    refine if_d (fun c => ?_) fun c => ?_
    · walk_at "rh"
      refine newZ (by walk_at "sz") fun b H4 s4 n4 e4 => ?_
      refine rd_cat (s4 _ _ e3) e4 ?_ (new_ fun r H5 s5 n5 e5 => ?_)
      · simp only [List.length_map, List.length_cons, List.length_nil]
        exact dec_le_size (by omega)
      exact fin [1] H5 r (by subst c; rfl) (by walk_at "sm") (s3.free (s4.free n5)) e5
    · walk_at "rh"
      refine newZ (by walk_at "sz") fun b H4 s4 n4 e4 => ?_
      refine rd_cat (s4 _ _ e3) e4 ?_ (new_ fun r H5 s5 n5 e5 => ?_)
      · simp only [List.length_map, List.length_cons, List.length_nil]
        exact dec_le_size (by omega)
      refine fin [p + 1, if p - 2 > 0 then p - 2 else 0] H5 r ?_ (by walk_at "sm") (s3.free (s4.free n5)) e5
      unfold comeS
      simp only [Bool.false_eq_true, if_false]
      rw [if_neg c]
      split
      · rename_i c1
        have c1' : p = 1 := c1
        subst c1'
        rfl
      · rename_i c1
        congr 2
        split <;> omega
end
end K07

namespace K07
open PySem L2 SpM Sp
section
variable {P : Program} {w : World} {K : PySem.W.Frag} {mg : Str → Option Value} {base : Heap} {f : Addr} {fd : FuncData} {CS CN CF CT CP CL Pt : Addr}
variable {fa_put_in : Addr} {fd_put_in : FuncData}
theorem ok_counted (F : Fun K "counted" "counted" s_counted f fd) (B : Bi mg) 
    (G_put_in : FnOk P w K mg base CX0 1 fa_put_in fd_put_in ["counts", "place"] (spPutIn))
    (D_put_in : Df K mg "put_in" fa_put_in fd_put_in ["counts", "place"]) : FnOk P w K mg base CX0 2 f fd ["heap"] (spCounted) := by
  refine F.ok sc_counted (fun vs H Q E h => ?_) (fun cdv A outer s H vs Q E hr h => ?_)
  · obtain ⟨a, ns, rfl, _⟩ := h
    rfl
  obtain ⟨a, ns, rfl, ea, hz, q⟩ := h
  refine ⟨_, (pss_cons (ps_set (i := 1) sc_counted.nd rfl (Or.inl rfl) pe_dnewK)
    (pss_cons (ps_for PassesOwn.never rfl (pi_list (pv 0)) (pg_name (i := 2) sc_counted.nd rfl (Or.inl rfl)) (pss_one (ps_expr (pcall G_put_in D_put_in (hr.mono (by decide)) (pa_cons (pv 1) (pa_cons (pv 2) pa_nil))))))
    (pss_one (ps_ret (pv 1))))), ?_⟩
  refine rd_start (show start ["heap", "counts", "place"] [_] = [some _, none, none] from rfl) ?_
  walk_at "rh"
  refine new_ fun c H1 s1 n1 e1 => ?_
  walk_at "rh"
  refine forL (xs := iv ns) (fun i σ H2 => ∃ v kvs, σ = [some (.ref a), some (.ref c), v] ∧ Same H H2 ∧ H2 c = some (.dK kvs) ∧ Dk kvs (ns.take i))
    (by walk_at "hp") ⟨none, [], rfl, s1, e1, by simpa using Dk.nil⟩ ?_ ?_ ?_
  · rintro i σ H2 _ ⟨v, kvs, rfl, sm, ec, hk⟩
    exact SqL.of (sm _ _ ea)
  · rintro i x σ H2 hx ⟨v, kvs, rfl, sm, ec, hk⟩
    obtain ⟨y, hy, rfl⟩ := iv_get hx
    walk_at "rh"
    refine ⟨c, y, kvs, _, rfl, ec, hk, by rw [List.length_take]; omega, fun kvs' hk' => ?_⟩
    walk_at "rh"
    refine ⟨_, kvs', rfl, by walk_at "sm", upd_same, hk'.perm ?_⟩
    rw [List.take_add_one, hy]
    exact (List.perm_append_singleton _ _).symm
  · rintro σ H2 ⟨v, kvs, rfl, sm, ec, hk⟩
    rw [iv_length, List.take_length] at hk
    walk_at "rh"
    exact q c H2 kvs sm n1 ec hk
end
end K07

namespace K07
open PySem L2 SpM Sp
section
variable {P : Program} {w : World} {K : PySem.W.Frag} {mg : Str → Option Value} {base : Heap} {f : Addr} {fd : FuncData} {CS CN CF CT CP CL Pt : Addr}
variable {fa_put_in fa_take_out fa_marks_that_go fa_marks_that_come : Addr} {fd_put_in fd_take_out fd_marks_that_go fd_marks_that_come : FuncData}
theorem ok_do_step (F : Fun K "do_step" "do_step" s_do_step f fd) (B : Bi mg) 
    (G_put_in : FnOk P w K mg base CX0 1 fa_put_in fd_put_in ["counts", "place"] (spPutIn))
    (D_put_in : Df K mg "put_in" fa_put_in fd_put_in ["counts", "place"])
    (G_take_out : FnOk P w K mg base CX0 1 fa_take_out fd_take_out ["counts", "place"] (spTakeOut))
    (D_take_out : Df K mg "take_out" fa_take_out fd_take_out ["counts", "place"])
    (G_marks_that_go : FnOk P w K mg base CX0 1 fa_marks_that_go fd_marks_that_go ["step"] (spGo))
    (D_marks_that_go : Df K mg "marks_that_go" fa_marks_that_go fd_marks_that_go ["step"])
    (G_marks_that_come : FnOk P w K mg base CX0 1 fa_marks_that_come fd_marks_that_come ["step"] (spCome))
    (D_marks_that_come : Df K mg "marks_that_come" fa_marks_that_come fd_marks_that_come ["step"]) : FnOk P w K mg base CX0 2 f fd ["counts", "step"] (spDoStep) := by
  refine F.ok sc_do_step (fun vs H Q E h => ?_) (fun cdv A outer s H vs Q E hr h => ?_)
  · obtain ⟨c, t, kvs, hs, s1, rfl, _⟩ := h
    rfl
  obtain ⟨c, t, kvs, hs, s1, rfl, ec, et, hk, hz, hc, q⟩ := h
  refine ⟨_, (pss_cons (ps_for PassesOwn.never rfl (pi_list (pcall G_marks_that_go D_marks_that_go (hr.mono (by decide)) (pa_cons (pv 1) pa_nil))) (pg_name (i := 2) sc_do_step.nd rfl (Or.inl rfl)) (pss_one (ps_expr (pcall G_take_out D_take_out (hr.mono (by decide)) (pa_cons (pv 0) (pa_cons (pv 2) pa_nil))))))
    (pss_one (ps_for PassesOwn.never rfl (pi_list (pcall G_marks_that_come D_marks_that_come (hr.mono (by decide)) (pa_cons (pv 1) pa_nil))) (pg_name (i := 2) sc_do_step.nd rfl (Or.inl rfl)) (pss_one (ps_expr (pcall G_put_in D_put_in (hr.mono (by decide)) (pa_cons (pv 0) (pa_cons (pv 2) pa_nil)))))))), ?_⟩
  refine rd_start (show start ["counts", "step", "place"] [_, _] = [some _, some _, none] from rfl) ?_
  have nct : t ≠ c := ne_of et ec (by unfold stpO; intro z; cases z)
  walk_at "rh"
  refine ⟨t, s1, rfl, et, fun l H1 s1' n1 e1 => ?_⟩
  have nlc : l ≠ c := Ne.symm (ne_of_none ec n1)
  obtain ⟨h1, h2⟩ := hc
  refine forL (xs := iv [s1.2, goQ s1]) (fun i σ H2 => ∃ v kvs', σ = [some (.ref c), some (.ref t), v] ∧ SameX c H H2 ∧ H2 l = some (.lst (iv [s1.2, goQ s1])) ∧ H2 c = some (.dK kvs') ∧ Dk kvs' (([s1.2, goQ s1].take i).foldl List.erase hs))
    (by walk_at "hp") ⟨none, kvs, rfl, SameX.of s1', e1, s1' _ _ ec, hk⟩ ?_ ?_ ?_
  · rintro i σ H2 _ ⟨v, kvs', rfl, sm, el, ec', hk'⟩
    exact SqL.of el
  · rintro i x σ H2 hx ⟨v, kvs', rfl, sm, el, ec', hk'⟩
    obtain ⟨y, hy, rfl⟩ := iv_get hx
    walk_at "rh"
    have hmem : y ∈ ([s1.2, goQ s1].take i).foldl List.erase hs ∧ ([s1.2, goQ s1].take (i + 1)).foldl List.erase hs = (([s1.2, goQ s1].take i).foldl List.erase hs).erase y ∧ (([s1.2, goQ s1].take i).foldl List.erase hs).length ≤ 1000 := by
      match i, hy with
      | 0, hy =>
        cases hy
        exact ⟨h1, rfl, by show hs.length ≤ 1000; omega⟩
      | 1, hy =>
        cases hy
        exact ⟨h2, rfl, by show (hs.erase s1.2).length ≤ 1000; have := List.length_erase_le (a := s1.2) (l := hs); omega⟩
      | i + 2, hy => simp at hy
    refine ⟨c, y, kvs', _, rfl, ec', hk', hmem.2.2, hmem.1, fun kvs2 hk2 => ?_⟩
    walk_at "rh"
    refine ⟨_, kvs2, rfl, sm.upd _, by rw [upd_ne nlc]; exact el, upd_same, by rw [hmem.2.1]; exact hk2⟩
  · rintro σ H2 ⟨v, kvs', rfl, sm, el, ec', hk'⟩
    have et2 := sm _ _ nct et
    walk_at "rh"
    refine ⟨t, s1, rfl, et2, fun l2 H3 s3 n3 e3 => ?_⟩
    have nl2 : l2 ≠ c := Ne.symm (ne_of_none ec' n3)
    have hb : ((hs.erase s1.2).erase (goQ s1)).length ≤ 900 := by
      have e1 := List.length_erase_le (a := s1.2) (l := hs)
      have e2 := List.length_erase_le (a := goQ s1) (l := hs.erase s1.2)
      omega
    have cl := come_len s1
    refine forL (xs := iv (comeS s1)) (fun i σ H4 => ∃ v kvs4, σ = [some (.ref c), some (.ref t), v] ∧ SameX c H H4 ∧ H4 l2 = some (.lst (iv (comeS s1))) ∧ H4 c = some (.dK kvs4) ∧ Dk kvs4 (((hs.erase s1.2).erase (goQ s1)) ++ (comeS s1).take i))
      (by walk_at "hp") ⟨v, kvs', rfl, sm.trans (SameX.of s3), e3, s3 _ _ ec', by rw [List.take_zero, List.append_nil]; exact hk'⟩ ?_ ?_ ?_
    · rintro i σ H4 _ ⟨v, kvs4, rfl, sm4, el4, ec4, hk4⟩
      exact SqL.of el4
    · rintro i x σ H4 hx ⟨v, kvs4, rfl, sm4, el4, ec4, hk4⟩
      obtain ⟨y, hy, rfl⟩ := iv_get hx
      walk_at "rh"
      refine ⟨c, y, kvs4, _, rfl, ec4, hk4, by rw [List.length_append, List.length_take]; omega, fun kvs5 hk5 => ?_⟩
      walk_at "rh"
      refine ⟨_, kvs5, rfl, sm4.upd _, by rw [upd_ne nl2]; exact el4, upd_same, hk5.perm ?_⟩
      rw [List.take_add_one, hy, ← List.append_assoc]
      exact (List.perm_append_singleton _ _).symm
    · rintro σ H4 ⟨v, kvs4, rfl, sm4, el4, ec4, hk4⟩
      rw [iv_length, List.take_length] at hk4
      exact q H4 kvs4 sm4 ec4 hk4
end
end K07

namespace K07
open PySem L2 SpM Sp
section
variable {P : Program} {w : World} {K : PySem.W.Frag} {mg : Str → Option Value} {base : Heap} {f : Addr} {fd : FuncData} {CS CN CF CT CP CL Pt : Addr}
variable {fa__law_whole : Addr} {fd__law_whole : FuncData}
theorem ok__law_is_step (F : Fun K "_law_is_step" "_law_is_step" s__law_is_step f fd) (B : Bi mg) 
    (G__law_whole : FnOk P w K mg base CX0 1 fa__law_whole fd__law_whole ["_law_found"] (spLWhole K))
    (D__law_whole : Df K mg "_law_whole" fa__law_whole fd__law_whole ["_law_found"]) : FnOk P w K mg base CX0 2 f fd ["_law_found"] (spIsStep) := by
  refine F.ok sc__law_is_step (fun vs H Q E h => ?_) (fun cdv A outer s H vs Q E hr h => ?_)
  · obtain ⟨t, s1, rfl, _⟩ := h
    rfl
  obtain ⟨t, s1, rfl, et, q⟩ := h
  refine ⟨_, (pss_one (ps_ret (pe_and (pisi B.isi (pv 0) (ptype B.tuple PyProof.Rows.Boot.«tuple»)) (pe_and (pe_cmpR op_eq (plen B.len (pv 0)) pe_int (nomark _)) (pe_and (pisi B.isi (pe_ix ix_tup (pv 0) pe_int (fun _ _ => rfl)) (ptype B.str PyProof.Rows.Boot.«str»)) (pe_one (pcall G__law_whole D__law_whole (hr.mono (by decide)) (pa_cons (pe_ix ix_tup (pv 0) pe_int (fun _ _ => rfl)) pa_nil)))))))), ?_⟩
  refine rd_start (show start ["_law_found"] [_] = [some _] from rfl) ?_
  obtain ⟨b, p⟩ := s1
  have e0 : SqT K H t [V.str (txt b), V.int p] := SqT.of et
  walk_at "rh"
  refine rd_isi (.tup et) rfl rfl ?_
  walk_at "rh"
  refine rd_isi (.str _) rfl rfl ?_
  walk_at "rh"
  exact ⟨_, rfl, Thing.int _, q⟩
end
end K07

namespace K07
open PySem L2 SpM Sp
section
variable {P : Program} {w : World} {K : PySem.W.Frag} {mg : Str → Option Value} {base : Heap} {f : Addr} {fd : FuncData} {CS CN CF CT CP CL Pt : Addr}
variable {fa__law_whole : Addr} {fd__law_whole : FuncData}
theorem ok__law_is_form (F : Fun K "_law_is_form" "_law_is_form" s__law_is_form f fd) (B : Bi mg) 
    (G__law_whole : FnOk P w K mg base CX0 1 fa__law_whole fd__law_whole ["_law_found"] (spLWhole K))
    (D__law_whole : Df K mg "_law_whole" fa__law_whole fd__law_whole ["_law_found"]) : FnOk P w K mg base CX0 2 f fd ["_law_found"] (spLForm K) := by
  refine F.ok sc__law_is_form (fun vs H Q E h => ?_) (fun cdv A outer s H vs Q E hr h => ?_)
  · obtain ⟨a, ns, rfl, _⟩ := h
    rfl
  obtain ⟨a, ns, rfl, e, hz, hf, q⟩ := h
  refine ⟨_, (pss_cons (ps_if (pt_not (pt_val (pisi B.isi (pv 0) (ptype B.list PyProof.Rows.Boot.«list»)))) (pss_one (ps_ret pe_bl)) pss_nil)
    (pss_cons (ps_for PassesOwn.never rfl (pi_range1 rfl B.range (pa_cons (plen B.len (pv 0)) pa_nil)) (pg_name (i := 1) sc__law_is_form.nd rfl (Or.inl rfl)) (pss_cons (ps_if (PW.pt (pw_or (pt_not (pt_val (pcall G__law_whole D__law_whole (hr.mono (by decide)) (pa_cons (pe_ix ix_list (pv 0) (pv 1) (fun _ _ => rfl)) pa_nil)))) (pw_or1 (pt_cmpR op_lt (pe_ix ix_list (pv 0) (pv 1) (fun _ _ => rfl)) pe_int (nomark _))))) (pss_one (ps_ret pe_bl)) pss_nil)
    (pss_one (ps_if (PW.pt (pw_and (pt_cmpR op_gt (pv 1) pe_int (nomark _)) (pw_and1 (pt_cmpR op_lt (pe_op op_sub (pe_ix ix_list (pv 0) (pe_op op_sub (pv 1) pe_int) (fun _ _ => rfl)) (pe_ix ix_list (pv 0) (pv 1) (fun _ _ => rfl))) pe_int (nomark _))))) (pss_one (ps_ret pe_bl)) pss_nil))))
    (pss_one (ps_ret pe_bl)))), ?_⟩
  refine rd_start (show start ["_law_found", "_law_k"] [_] = [some _, none] from rfl) ?_
  refine ⟨_, rfl, _, _, _, _, true, rfl, rfl, .lst e, rfl, _, rfl, iteF ?_⟩
  refine ⟨_, rfl, a, _, rfl, .inl (SqL.of e), ns.length, by rw [iv_length], by omega, by unfold lim at hz; omega, for_range (fun i σ H1 => (∃ v, σ = [some (.ref a), v]) ∧ H1 = H) ⟨⟨none, rfl⟩, rfl⟩ ?_ ?_⟩
  · rintro i σ H1 hi ⟨⟨v, rfl⟩, rfl⟩
    have e0 : (0 : Int) + (i : Int) = (i : Int) := by omega
    rw [e0]
    obtain ⟨x, hx⟩ : ∃ x, ns[i]? = some x := ⟨ns[i], by simp [hi]⟩
    have x0 := hf.mem_nonneg x (List.mem_of_getElem? hx)
    refine ⟨_, rfl, _, rfl, a, _, _, _, rfl, rfl, SqL.of e, iv_at hx, _, rfl, Thing.int _, _, rfl, iteF ?_⟩
    refine ⟨_, rfl, _, rfl, a, _, _, _, rfl, rfl, SqL.of e, iv_at hx, _, _, rfl, rfl, _, rfl, ?_⟩
    refine ite2 (fun c => ?_) fun _ => ?_
    · have c' : x < 0 := of_decide_eq_true c
      omega
    refine ⟨_, rfl, _, _, rfl, rfl, _, rfl, ?_⟩
    refine ite2 (fun c => ?_) fun _ => ?_
    · have c' : (0 : Int) < (i : Int) := of_decide_eq_true c
      obtain ⟨j, rfl⟩ : ∃ j, i = j + 1 := ⟨i - 1, by omega⟩
      obtain ⟨y, hy⟩ : ∃ y, ns[j]? = some y := ⟨ns[j], List.getElem?_eq_getElem (by omega)⟩
      have st := form_step hf hy hx
      have ej : ((j + 1 : Nat) : Int) - 1 = (j : Int) := by omega
      have aty : atI (iv ns) (((j + 1 : Nat) : Int) - 1) = some (.int y) := by rw [ej]; exact iv_at hy
      refine ⟨_, rfl, _, rfl, _, _, rfl, rfl, a, _, _, _, rfl, rfl, SqL.of e, aty, _, rfl, _, rfl, a, _, _, _, rfl, rfl, SqL.of e, iv_at hx, _, _, rfl, rfl, _, _, rfl, rfl, _, rfl, ?_⟩
      refine ite2 (fun d => ?_) fun _ => ?_
      · have d' : y - x < 2 := of_decide_eq_true d
        omega
      · exact ⟨⟨_, rfl⟩, rfl⟩
    · exact iteF ⟨⟨_, rfl⟩, rfl⟩
  · rintro σ H1 ⟨⟨v, rfl⟩, rfl⟩
    exact q
end
end K07

namespace K07
open PySem L2 SpM Sp
section
variable {P : Program} {w : World} {K : PySem.W.Frag} {mg : Str → Option Value} {base : Heap} {f : Addr} {fd : FuncData} {CS CN CF CT CP CL Pt : Addr}
variable {fa_counted fa_falling fa_steps_among fa_do_step : Addr} {fd_counted fd_falling fd_steps_among fd_do_step : FuncData}
theorem ok_settled_by (F : Fun K "settled_by" "settled_by" s_settled_by f fd) (B : Bi mg) 
    (G_counted : FnOk P w K mg base CX0 2 fa_counted fd_counted ["heap"] (spCounted))
    (D_counted : Df K mg "counted" fa_counted fd_counted ["heap"])
    (G_falling : FnOk P w K mg base CX0 1 fa_falling fd_falling ["counts"] (spFalling))
    (D_falling : Df K mg "falling" fa_falling fd_falling ["counts"])
    (G_steps_among : FnOk P w K mg base CX0 1 fa_steps_among fd_steps_among ["counts"] (spAmong))
    (D_steps_among : Df K mg "steps_among" fa_steps_among fd_steps_among ["counts"])
    (G_do_step : FnOk P w K mg base CX0 2 fa_do_step fd_do_step ["counts", "step"] (spDoStep))
    (D_do_step : Df K mg "do_step" fa_do_step fd_do_step ["counts", "step"]) : FnOk P w K mg base CX0 3 f fd ["heap", "choose"] (spBy P w K mg base) := by
  refine F.ok sc_settled_by (fun vs H Q E h => ?_) (fun cdv A outer s H vs Q E hr h => ?_)
  · obtain ⟨a, F1, ns, pick, Ok, rfl, _⟩ := h
    rfl
  obtain ⟨a, F1, ns, pick, Ok, rfl, ea, okk, ok0, wz, ch, pl, q⟩ := h
  refine ⟨_, (pss_cons (ps_set (i := 2) sc_settled_by.nd rfl (Or.inl rfl) (pcall G_counted D_counted (hr.mono (by decide)) (pa_cons (pv 0) pa_nil)))
    (pss_cons (ps_set (i := 3) sc_settled_by.nd rfl (Or.inl rfl) (pe_lst pa_nil))
    (pss_cons (ps_set (i := 4) sc_settled_by.nd rfl (Or.inl rfl) (pcall G_steps_among D_steps_among (hr.mono (by decide)) (pa_cons (pv 2) pa_nil)))
    (pss_cons (ps_while PassesOwn.never (pt_truth (pv 4) (fun _ => rfl)) (pss_cons (ps_set (i := 5) sc_settled_by.nd rfl (Or.inl rfl) (pcallV (k := 1) (hr.mono (by decide)) (pv 1) (pa_cons (pv 4) (pa_cons (plen B.len (pv 3)) pa_nil))))
    (pss_cons (ps_expr (pcall G_do_step D_do_step (hr.mono (by decide)) (pa_cons (pv 2) (pa_cons (pv 5) pa_nil))))
    (pss_cons (ps_expr (pe_bm PySem.F.plainAttrs_list PySem.F.slot_list_append PySem.F.type_list_append mt_append (pv 3) (pa_cons (pv 5) pa_nil)))
    (pss_one (ps_set (i := 4) sc_settled_by.nd rfl (Or.inl rfl) (pcall G_steps_among D_steps_among (hr.mono (by decide)) (pa_cons (pv 2) pa_nil))))))))
    (pss_one (ps_ret (pe_tup (pa_cons (pcall G_falling D_falling (hr.mono (by decide)) (pa_cons (pv 2) pa_nil)) (pa_cons (pv 3) pa_nil))))))))), ?_⟩
  refine rd_start (show start ["heap", "choose", "counts", "row", "found", "step"] [_, _] = [some _, some _, none, none, none, none] from rfl) ?_
  walk_at "rh"
  have lz : ns.length ≤ 900 := okk.len _ ok0
  refine ⟨a, ns, rfl, ea, by omega, fun c H1 kvs s1 n1 e1 hk => ?_⟩
  walk_at "rh"
  refine newZ (by walk_at "sz") fun r H2 s2 n2 e2 => ?_
  have nrc : r ≠ c := Ne.symm (ne_of_none e1 n2)
  walk_at "rh"
  refine ⟨c, kvs, ns, rfl, s2 _ _ e1, hk, by omega, okk.few _ ok0, fun ws hw fo fxs H3 s3 n3 e3 tp3 => ?_⟩
  have nr0 : H r = none := s1.free n2
  walk_at "rh"
  refine while_by (fun σ H4 => ∃ (hs : List Int) (kvs : List (Key × V)) (rw_ : List Stp) (xs : List V) (ws : List Stp) (fo : Addr) (fxs : List V) (v : Option V), σ = [some (.ref a), some (.ref F1), some (.ref c), some (.ref r), some (.ref fo), v] ∧ Same H H4 ∧ H4 c = some (.dK kvs) ∧ Dk kvs hs ∧
      H4 r = some (.lst xs) ∧ Tups H4 xs rw_ ∧ Run pick ns rw_ hs ∧ Ok hs ∧ H4 fo = some (.lst fxs) ∧ Tups H4 fxs ws ∧ IsWays hs ws) (fun _ H4 => match H4 r with | some (.lst xs) => 100000 - xs.length | _ => 0)
    ⟨ns, kvs, [], [], ws, fo, fxs, none, rfl, s1.trans (s2.trans s3), s3 _ _ (s2 _ _ e1), hk, s3 _ _ e2, .nil, .nil, ok0, e3, tp3, hw⟩ ?_ ?_
  · rintro σ H4 ⟨hs, kvs, rw_, xs, ws, fo, fxs, v, rfl, sm, ec, hk, er, tr, run, ok, ef, tf, hw⟩
    have nn := okk.nn _ ok0
    have rl := run.wt nn
    have wn := wt_nonneg (okk.nn _ ok)
    have lx := tr.length
    have lf := tf.length
    have hz := okk.len _ ok
    walk_at "rh"
    refine if_nb (fun ne => ?_) fun emp => ?_
    · have fpos : 0 < fxs.length := by
        cases fxs with
        | nil => cases ne
        | cons _ _ => simp
      obtain ⟨s0, hs0⟩ : ∃ s0, ws[pick rw_.length ws.length]? = some s0 := ⟨ws[pick rw_.length ws.length]'(pl _ _ (by omega)), List.getElem?_eq_getElem _⟩
      obtain ⟨t, ht, et⟩ := tf.get hs0
      have cn := Run.can hw hs0
      have ok' := okk.step _ _ ok cn
      have ntc : t ≠ c := ne_of et ec (by unfold stpO; intro z; cases z)
      walk_at "rh"
      refine rd_callV ?_
      walk_at "rh"
      refine ⟨F1, _, _, rfl, ch, ?_⟩
      walk_at "rh"
      rw [lx]
      refine ⟨fo, rw_.length, fxs, .ref t, rfl, sm, ef, fpos, by rw [lf]; exact ht, ?_⟩
      walk_at "rh"
      refine ⟨c, t, kvs, hs, s0, rfl, ec, et, hk, hz, cn, fun H5 kvs5 s5 e5 hk5 => ?_⟩
      have sm5 : Same H H5 := fun b o e => s5 b o (fun z => by rw [z, n1] at e; cases e) (sm b o e)
      have er5 := s5 _ _ nrc er
      have tr5 := tr.sameX ec s5
      have et5 := s5 _ _ ntc et
      walk_at "rh"
      refine rd_append er5 (smallL (by unfold lim; omega)) ?_
      have tr6 : Tups (upd H5 r (.lst (xs ++ [.ref t]))) (xs ++ [.ref t]) (rw_ ++ [s0]) := (tr5.append (.cons et5 .nil)).put er5
      have e6 : upd H5 r (.lst (xs ++ [.ref t])) r = some (.lst (xs ++ [.ref t])) := upd_same
      have c6 : upd H5 r (.lst (xs ++ [.ref t])) c = some (.dK kvs5) := by rw [upd_ne (Ne.symm nrc)]; exact e5
      have s6 : Same H (upd H5 r (.lst (xs ++ [.ref t]))) := same_put nr0 sm5 _
      generalize upd H5 r (.lst (xs ++ [.ref t])) = H6 at tr6 e6 c6 s6 ⊢
      walk_at "rh"
      refine ⟨c, kvs5, _, rfl, c6, hk5, Nat.le_trans (okk.len _ ok') (by omega), okk.few _ ok', fun ws7 hw7 fo7 fxs7 H7 s7 n7 e7 tp7 => ?_⟩
      walk_at "rh"
      refine ⟨⟨_, kvs5, rw_ ++ [s0], xs ++ [.ref t], ws7, fo7, fxs7, _, rfl, s6.trans s7, s7 _ _ c6, hk5, s7 _ _ e6, tr6.same s7, .snoc run hw hs0, ok', e7, tp7, hw7⟩, ?_⟩
      rw [s7 _ _ e6, er]
      show 100000 - (xs ++ [V.ref t]).length < 100000 - xs.length
      rw [List.length_append, List.length_singleton]
      omega
    · have e0 : ws = [] := tups_nil tf (by cases fxs with | nil => rfl | cons _ _ => cases emp)
      subst e0
      walk_at "rh"
      refine ⟨c, kvs, hs, rfl, ec, hk, by omega, okk.few _ ok, fun ds pm pw f H5 s5 n5 e5 => ?_⟩
      have nfr : f ≠ r := Ne.symm (ne_of_none er n5)
      walk_at "rh"
      refine newZ (by walk_at "sz") fun t H6 s6 n6 e6 => ?_
      exact q rw_ hs ds run ok hw pm pw t f r xs H6 (sm.trans (s5.trans s6)) ⟨sm.free (s5.free n6), e6, sm.free n5, s6 _ _ e5, nr0, s6 _ _ (s5 _ _ er), (tr.same s5).same s6, nfr⟩
  · rintro σ H1 Q1 Q2 hQ ⟨v, e1, k, tv, z⟩
    exact ⟨v, e1, k, tv, hQ _ _ z⟩
end
end K07

namespace K07
open PySem L2 SpM Sp
section
variable {P : Program} {w : World} {K : PySem.W.Frag} {mg : Str → Option Value} {base : Heap} {f : Addr} {fd : FuncData} {CS CN CF CT CP CL Pt : Addr}
variable {fa__law_ways fa__law_behind fa__law_is_step : Addr} {fd__law_ways fd__law_behind fd__law_is_step : FuncData}
theorem ok__law_walked (F : Fun K "_law_walked" "_law_walked" s__law_walked f fd) (B : Bi mg) 
    (G__law_ways : FnOk P w K mg base CX0 1 fa__law_ways fd__law_ways ["_law_heap"] (spSteps))
    (D__law_ways : Df K mg "_law_ways" fa__law_ways fd__law_ways ["_law_heap"])
    (G__law_behind : FnOk P w K mg base CX0 1 fa__law_behind fd__law_behind ["_law_heap", "_law_step"] (spBehind))
    (D__law_behind : Df K mg "_law_behind" fa__law_behind fd__law_behind ["_law_heap", "_law_step"])
    (G__law_is_step : FnOk P w K mg base CX0 2 fa__law_is_step fd__law_is_step ["_law_found"] (spIsStep))
    (D__law_is_step : Df K mg "_law_is_step" fa__law_is_step fd__law_is_step ["_law_found"]) : FnOk P w K mg base CX0 3 f fd ["_law_heap", "_law_picks", "_law_told"] (spWalked) := by
  refine F.ok sc__law_walked (fun vs H Q E h => ?_) (fun cdv A outer s H vs Q E hr h => ?_)
  · obtain ⟨a, b, r, ns, ps, xs, row, hs', ds, rfl, _⟩ := h
    rfl
  obtain ⟨a, b, r, ns, ps, xs, row, hs', ds, rfl, ea, eb, er, tp, ok, rl, run, hw, pm, pw, q⟩ := h
  refine ⟨_, (pss_cons (ps_set (i := 3) sc__law_walked.nd rfl (Or.inl rfl) (plist B.list (pv 0)))
    (pss_cons (ps_for PassesOwn.never rfl (pi_range1 rfl B.range (pa_cons (plen B.len (pv 2)) pa_nil)) (pg_name (i := 4) sc__law_walked.nd rfl (Or.inl rfl)) (pss_cons (ps_set (i := 5) sc__law_walked.nd rfl (Or.inl rfl) (pcall G__law_ways D__law_ways (hr.mono (by decide)) (pa_cons (pv 3) pa_nil)))
    (pss_cons (ps_set (i := 6) sc__law_walked.nd rfl (Or.inl rfl) pe_int)
    (pss_cons (ps_if (pt_cmpR op_lt (pv 4) (plen B.len (pv 1)) (nomark _)) (pss_one (ps_set (i := 6) sc__law_walked.nd rfl (Or.inl rfl) (pe_ix ix_list (pv 1) (pv 4) (fun _ _ => rfl)))) pss_nil)
    (pss_cons (ps_if (PW.pt (pw_or (pt_cmpR (op_eqD hr.units) (pv 5) (pe_lst pa_nil) (nomark _)) (pw_or (pt_not (pt_val (pcall G__law_is_step D__law_is_step (hr.mono (by decide)) (pa_cons (pe_ix ix_list (pv 2) (pv 4) (fun _ _ => rfl)) pa_nil)))) (pw_or1 (pt_cmpR (op_neD hr.units) (pe_ix ix_list (pv 2) (pv 4) (fun _ _ => rfl)) (pe_ix ix_list (pv 5) (pe_op op_mod (pv 6) (plen B.len (pv 5))) (fun _ _ => rfl)) (nomark _)))))) (pss_one (ps_ret pe_non)) pss_nil)
    (pss_one (ps_set (i := 3) sc__law_walked.nd rfl (Or.inl rfl) (pcall G__law_behind D__law_behind (hr.mono (by decide)) (pa_cons (pv 3) (pa_cons (pe_ix ix_list (pv 2) (pv 4) (fun _ _ => rfl)) pa_nil))))))))))
    (pss_cons (ps_if (pt_cmpR (op_neD hr.units) (pcall G__law_ways D__law_ways (hr.mono (by decide)) (pa_cons (pv 3) pa_nil)) (pe_lst pa_nil) (nomark _)) (pss_one (ps_ret pe_non)) pss_nil)
    (pss_one (ps_ret (psortR B.sorted (pv 3) pe_bl)))))), ?_⟩
  refine rd_start (show start ["_law_heap", "_law_picks", "_law_told", "_law_marks", "_law_k", "_law_ways_here", "_law_pick"] [_, _, _] = [some _, some _, some _, none, none, none, none] from rfl) ?_
  have lx := tp.length
  walk_at "rh"
  refine new_ fun m0 H1 s1 n1 e1 => ?_
  have er1 := s1 _ _ er
  walk_at "rh"
  refine forR (fun i σ H2 => ∃ (m : Addr) (ms hk : List Int) (v4 v5 v6 : Option V), σ = [some (.ref a), some (.ref b), some (.ref r), some (.ref m), v4, v5, v6] ∧ Same H H2 ∧ H2 m = some (.lst (iv ms)) ∧ Run (pickOf ps) ns (row.take i) hk ∧ ms.Perm hk) row.length (by rw [lx]) (by omega)
    ⟨m0, ns, ns, none, none, none, rfl, s1, e1, by rw [List.take_zero]; exact .nil, List.Perm.refl _⟩ ?_ ?_
  · rintro i σ H2 hi ⟨m, ms, hk, v4, v5, v6, rfl, sm, em, rn, pmm⟩
    obtain ⟨g, ws, s0, rn1, hw1, hs0, hws, rn2⟩ := run.at hi
    have pg : ms.Perm g := pmm.trans (rn.unique rn1 (List.Perm.refl _))
    have okm : Ok7 ms := (rn1.ok7 ok).perm pg.symm
    have hwm : IsWays ms ws := hw1.perm pg.symm
    have lm : ms.length ≤ 65 := okm.1
    obtain ⟨t, ht, et⟩ := tp.get hs0
    have cn := can_perm pg.symm (Run.can hw1 hws)
    have pos : 0 < ws.length := by
      have := (List.getElem?_eq_some_iff.mp hws).1
      omega
    have ixt : atI xs (i : Int) = some (.ref t) := atI_nat ht
    have eb2 := sm _ _ eb
    have er2 := sm _ _ er
    have et2 := sm _ _ et
    walk_at "rh"
    refine ⟨m, ms, rfl, em, by omega, okm.few, fun ws' hw' wl fxs H3 s3 n3 e3 tp3 => ?_⟩
    have ew : ws' = ws := IsWays.unique (List.Perm.refl _) hw' hwm
    subst ew
    have lf := tp3.length
    have sm3 := sm.trans s3
    refine rd_gName ?_
    dsimp only
    refine rd_seq ?_
    refine rd_asg (rd_c (rd_gName ?_))
    dsimp only
    refine rd_seqK (fun σ H4 => σ = [some (.ref a), some (.ref b), some (.ref r), some (.ref m), some (.int i), some (.ref wl), some (.int (ps.getD i 0))] ∧ Same H3 H4) ?_ fun key => ?_
    · rintro σ H4 ⟨rfl, s4⟩
      have sm4 := sm3.trans s4
      have er4 := sm4 _ _ er
      have et4 := sm4 _ _ et
      have e34 := s4 _ _ e3
      have tp4 := tp3.same s4
      walk_at "rh"
      refine newZ (by walk_at "sz") fun z H5 s5 n5 e5 => ?_
      have sm5 := sm4.trans s5
      refine ⟨_, .list [], dats_list (SqL.of (s5 _ _ e34)) (tp4.same s5), .lst (SqL.of e5) .nil, shapeSs _, by decide, ?_⟩
      have ef : PyData.eqv (.list (ws'.map dS)) (.list []) = false := by
        cases ws' with
        | nil => simp at pos
        | cons s r => simp [PyData.eqv, PyData.eqvAll]
      rw [ef]
      have er5 := sm5 _ _ er
      have e35 := s5 _ _ e34
      walk_at "rh"
      refine ⟨t, s0, rfl, sm5 _ _ et, ?_⟩
      walk_at "rh"
      walk_at "rh"
      refine rd_i (show (0 : Int) < (fxs.length : Int) by omega) ?_
      obtain ⟨t2, ht2, et2'⟩ := (tp4.same s5).get hws
      have ixw : atI fxs (ps.getD i 0 % (fxs.length : Int)) = some (.ref t2) := by
        have e : ps.getD i 0 % (fxs.length : Int) = ((pickOf ps i ws'.length : Nat) : Int) := by
          unfold pickOf
          rw [lf]
          have := Int.emod_nonneg (ps.getD i 0) (show (ws'.length : Int) ≠ 0 by omega)
          omega
        rw [e]
        exact atI_nat ht2
      refine rd_ixL (SqL.of e35) ixw ?_
      refine rd_neD (Dat.stp (sm5 _ _ et)) (Dat.stp et2') (shapeS _) ?_
      walk_at "rh"
      walk_at "rh"
      refine ⟨m, t, ms, s0, rfl, s5 _ _ (s4 _ _ (s3 _ _ em)), sm5 _ _ et, by omega, cn, (okm.bound _ cn.1).1, fun m2 H6 s6 n6 e6 => ?_⟩
      walk_at "rh"
      exact ⟨m2, _, _, _, _, _, rfl, sm5.trans s6, e6, rn2, aft_perm pg s0⟩
    · have eb3 := sm3 _ _ eb
      walk_at "rh"
      refine if_d (fun c => ?_) fun c => ?_
      · have kl : i < ps.length := by rw [iv_length] at c; omega
        have at1 : atI (iv ps) (i : Int) = some (.int (ps.getD i 0)) := iv_at (by rw [List.getElem?_eq_getElem kl]; simp [List.getD, kl])
        walk_at "rh"
        refine rd_ixL (SqL.of eb3) at1 ?_
        refine rd_gName ?_
        exact key _ _ ⟨rfl, Same.refl _⟩
      · have kl : ps.length ≤ i := by rw [iv_length] at c; omega
        have z : ps.getD i 0 = 0 := by simp [List.getD, List.getElem?_eq_none kl]
        exact key _ _ ⟨by rw [z]; rfl, Same.refl _⟩
  · rintro σ H2 ⟨m, ms, hk, v4, v5, v6, rfl, sm, em, rn, pmm⟩
    rw [List.take_length] at rn
    have pg : ms.Perm hs' := pmm.trans (rn.unique run (List.Perm.refl _))
    have okm : Ok7 ms := (run.ok7 ok).perm pg.symm
    have hwm : IsWays ms [] := hw.perm pg.symm
    have fm := no_ways hw pm pw (run.nonneg fun p hp => (ok.bound p hp).1)
    have ml : ms.length < 64 := by
      rw [pg.length_eq, ← pm.length_eq]
      exact (okm.perm (pg.trans pm.symm)).few ds (form_nodup fm) fun j hj => hj
    walk_at "rh"
    refine ⟨m, ms, rfl, em, by omega, okm.few, fun ws' hw' wl fxs H3 s3 n3 e3 tp3 => ?_⟩
    have ew : ws' = [] := IsWays.unique (List.Perm.refl _) hw' hwm
    subst ew
    walk_at "rh"
    refine newZ (by walk_at "sz") fun z H5 s5 n5 e5 => ?_
    refine rd_neD (d := .list []) (dats_list (ws := []) (SqL.of (s5 _ _ e3)) (tp3.same s5)) (.lst (SqL.of e5) .nil) (by decide) ?_
    walk_at "rh"
    refine rd_sortR (src := ms) (.inl (SqL.of (s5 _ _ (s3 _ _ em)))) ml fun ms' pm' pw' => new_ fun d H6 s6 n6 e6 => ?_
    have e : ms' = ds := fall_unique pw' pw (pm'.trans (pg.trans pm.symm))
    subst e
    exact q d H6 (sm.trans (s3.trans (s5.trans s6))) (sm.free (s3.free (s5.free n6))) e6
end
end K07

namespace K07
open PySem L2 SpM Sp
section
variable {P : Program} {w : World} {K : PySem.W.Frag} {mg : Str → Option Value} {base : Heap} {f : Addr} {fd : FuncData} {CS CN CF CT CP CL Pt : Addr}
variable {fa_settled_by : Addr} {fd_settled_by : FuncData} {c : Addr} {dV : Value}
theorem ok_settled (F : FunD K "settled" "settled" s_settled f fd dV c) (B : Bi mg) (hCd : PySem.W.CodeHd base c Pt) (hBt : base.BuiltinsAt mg Pt) 
    (GA_settled_by : ∀ base : Heap, FnOk P w K mg base CX0 3 fa_settled_by fd_settled_by ["heap", "choose"] (spBy P w K mg base))
    (D_settled_by : Df K mg "settled_by" fa_settled_by fd_settled_by ["heap", "choose"]) : FnOk P w K mg base CX0 4 f fd ["heap", "picks"] (spSettled Pt (lamP s_settled) "settled.<locals>.<lambda>") := by
  refine F.ok sc_settled (fun vs H Q E h => ?_) (fun A outer s H vs Q E hr h => ?_)
  · obtain ⟨a, x, ns, ps, rfl, _⟩ := h
    rfl
  obtain ⟨a, x, ns, ps, rfl, ea, hT, hx, hz, ok, wz, q⟩ := h
  refine ⟨_, (pss_cons (ps_set (i := 2) sc_settled.nd rfl (Or.inr rfl) (pe_ifExp (pt_cmpR op_isN (pv 1) pe_non (nomark _)) (pe_lst pa_nil) (pv 1)))
    (pss_one (ps_ret (pcallLam GA_settled_by D_settled_by (hr.mono (by decide)) (pv 0) rfl hCd hBt rfl ((List.forall_mem_cons.mpr ⟨rfl, List.forall_mem_nil _⟩)) rfl rfl)))), ?_⟩
  refine rd_start (show start ["heap", "picks", "numbers"] [_, _] = [some _, some _, none] from rfl) ?_
  refine rd_seqK (fun σ H1 => ∃ nl, σ = [some (.ref a), some x, some (.ref nl)] ∧ Same H H1 ∧ H1 nl = some (.lst (iv ps))) ?_ fun key => ?_
  · rintro σ H1 ⟨nl, rfl, s1, en⟩
    refine rd_ret (rd_callLam (rd_var rfl ⟨hT.same s1, fun base' F1 c' oc pm ctv H2 LA => ?_⟩))
    have T1 := hT.same s1
    have sX : SameX Pt H H2 := fun b o nb e => LA.same b o nb (s1 b o e)
    have ea2 : H2 a = some (.lst (iv ns)) := LA.same _ _ (T1.ne (s1 _ _ ea) (by intro ps z; cases z)) (s1 _ _ ea)
    have en2 : H2 nl = some (.lst (iv ps)) := LA.same _ _ (T1.ne en (by intro ps z; cases z)) en
    have ch : Ch P w K mg base' H2 F1 (pickOf ps) := by
      refine ⟨⟨_, _, LA.fn, rfl, lam_fn (N := ["found", "turn", "numbers"]) (ps := ["found", "turn"]) (fn := ["numbers"]) (fvs := [.ref nl]) (k := 0) LA.fn ?_ ⟨rfl, rfl, rfl, by decide +kernel, by decide +kernel, by decide +kernel, by decide +kernel, List.forall_mem_cons.mpr ⟨⟨_, rfl⟩, List.forall_mem_nil _⟩, rfl, by decide +kernel⟩ rfl ?_ LA.cell2 LA.inj ?_ ?_, fun us hl => match us, hl with | [_, _], _ => rfl⟩⟩
      · rintro vs H3 Q3 E3 ⟨b, k, xs, v, rfl, sm, _⟩
        exact ⟨oc, sm _ _ LA.code, LA.co⟩
      · intro i x v h1 h2
        match i, h1, h2 with
        | 0, h1, h2 =>
          cases h1
          cases h2
          obtain ⟨u, hc, r⟩ := LA.cells 2 "numbers" (.ref nl) _ rfl rfl rfl rfl
          exact ⟨_, u, rfl, hc, r⟩
        | i + 1, h1, h2 => simp at h1
      · rintro vs H3 Q3 E3 ⟨b, k, xs, v, rfl, _⟩
        rfl
      · rintro A3 outer3 s3 H3 vs Q3 E3 hr3 ⟨b, k, xs, v, rfl, sm, eb, hpos, hv, q3⟩
        refine ⟨_, (pe_ix ix_list (pv 0) (pe_ifExp (pt_cmpR op_lt (pv 1) (plen B.len (pv 2)) (nomark _)) (pe_op op_mod (pe_ix ix_list (pv 2) (pv 1) (fun _ _ => rfl)) (plen B.len (pv 0))) pe_int) (fun _ _ => rfl)), ?_⟩
        have en3 := sm _ _ en2
        refine rd_at (show _ = [some (V.ref b), some (V.int k), some (V.ref nl)] from rfl) ?_
        have key : ∀ j : Int, j = ((pickOf ps k xs.length : Nat) : Int) → atI xs j = some v := fun j e => by
          subst e
          exact atI_nat hv
        walk_at "rh"
        refine if_d (fun c => ?_) fun c => ?_
        · have kl : k < ps.length := by rw [iv_length] at c; omega
          have at1 : atI (iv ps) (k : Int) = some (.int (ps.getD k 0)) := by
            refine atI_nat ?_
            unfold iv
            rw [List.getElem?_map, List.getElem?_eq_getElem kl]
            simp [List.getD, kl]
          walk_at "rh"
          refine rd_ixL (SqL.of en3) at1 ?_
          walk_at "rh"
          refine rd_i (show (0 : Int) < (xs.length : Int) by omega) ?_
          refine rd_ixL (SqL.of eb) (key _ ?_) q3
          unfold pickOf
          have := Int.emod_nonneg (ps.getD k 0) (show (xs.length : Int) ≠ 0 by omega)
          omega
        · have kl : ps.length ≤ k := by rw [iv_length] at c; omega
          walk_at "rh"
          refine rd_ixL (SqL.of eb) (key _ ?_) q3
          unfold pickOf
          have : ps.getD k 0 = 0 := by simp [List.getD, List.getElem?_eq_none kl]
          rw [this]
          simp
    refine ⟨a, F1, ns, pickOf ps, Ok7, rfl, ea2, okk7, ok, wz, ch, pickOf_lt ps, fun row hs' ds run ok' hw pm pw t f r xs H' s' pa => ?_⟩
    exact q row hs' ds run ok' hw pm pw t f r xs H' (fun b o nb e => s' _ _ (sX b o nb e)) (LA.tab.same s') (pa.old LA.tab sX)
  · walk_at "rh"
    refine ⟨rfl, ?_⟩
    rcases hx with ⟨rfl, rfl⟩ | ⟨b, rfl, eb⟩
    · walk_at "rh"
      refine newZ (by walk_at "sz") fun nl H1 s1 n1 e1 => ?_
      refine rd_gName ?_
      exact key _ _ ⟨nl, rfl, s1, e1⟩
    · refine ⟨_, rfl, if_dF (by intro z; cases z) ?_⟩
      refine rd_var rfl ?_
      refine rd_gName ?_
      exact key _ _ ⟨b, rfl, Same.refl _, eb⟩
end
end K07

namespace K07
open PySem L2 SpM Sp
section
variable {P : Program} {w : World} {K : PySem.W.Frag} {mg : Str → Option Value} {base : Heap} {f : Addr} {fd : FuncData} {CS CN CF CT CP CL Pt : Addr}
variable {fa__law_weight fa__law_walked fa__law_is_form : Addr} {fd__law_weight fd__law_walked fd__law_is_form : FuncData}
theorem ok__law_right (F : Fun K "_law_right" "_law_right" s__law_right f fd) (B : Bi mg) 
    (G__law_weight : FnOk P w K mg base CX0 1 fa__law_weight fd__law_weight ["_law_heap"] (spWeight))
    (D__law_weight : Df K mg "_law_weight" fa__law_weight fd__law_weight ["_law_heap"])
    (G__law_walked : FnOk P w K mg base CX0 3 fa__law_walked fd__law_walked ["_law_heap", "_law_picks", "_law_told"] (spWalked))
    (D__law_walked : Df K mg "_law_walked" fa__law_walked fd__law_walked ["_law_heap", "_law_picks", "_law_told"])
    (G__law_is_form : FnOk P w K mg base CX0 2 fa__law_is_form fd__law_is_form ["_law_found"] (spLForm K))
    (D__law_is_form : Df K mg "_law_is_form" fa__law_is_form fd__law_is_form ["_law_found"]) : FnOk P w K mg base CX0 4 f fd ["_law_heap", "_law_picks", "_law_pair"] (spRight) := by
  refine F.ok sc__law_right (fun vs H Q E h => ?_) (fun cdv A outer s H vs Q E hr h => ?_)
  · obtain ⟨a, b, t, f, r, ns, ps, xs, row, hs', ds, rfl, _⟩ := h
    rfl
  obtain ⟨a, b, t, f, r, ns, ps, xs, row, hs', ds, rfl, ea, eb, et, ef, er, tp, ok, wz, run, hw, pm, pw, q⟩ := h
  refine ⟨_, (pss_cons (ps_if (PW.pt (pw_or (pt_not (pt_val (pisi B.isi (pv 2) (ptype B.tuple PyProof.Rows.Boot.«tuple»)))) (pw_or (pt_cmpR op_ne (plen B.len (pv 2)) pe_int (nomark _)) (pw_or (pt_not (pt_val (pcall G__law_is_form D__law_is_form (hr.mono (by decide)) (pa_cons (pe_ix ix_tup (pv 2) pe_int (fun _ _ => rfl)) pa_nil)))) (pw_or1 (pt_not (pt_val (pisi B.isi (pe_ix ix_tup (pv 2) pe_int (fun _ _ => rfl)) (ptype B.list PyProof.Rows.Boot.«list»))))))))) (pss_one (ps_ret pe_bl)) pss_nil)
    (pss_cons (ps_if (pt_cmpR op_gt (plen B.len (pe_ix ix_tup (pv 2) pe_int (fun _ _ => rfl))) (pe_op op_sub (pcall G__law_weight D__law_weight (hr.mono (by decide)) (pa_cons (pv 0) pa_nil)) (pcall G__law_weight D__law_weight (hr.mono (by decide)) (pa_cons (pe_ix ix_tup (pv 2) pe_int (fun _ _ => rfl)) pa_nil))) (nomark _)) (pss_one (ps_ret pe_bl)) pss_nil)
    (pss_cons (ps_set (i := 3) sc__law_right.nd rfl (Or.inl rfl) (pcall G__law_walked D__law_walked (hr.mono (by decide)) (pa_cons (pv 0) (pa_cons (pv 1) (pa_cons (pe_ix ix_tup (pv 2) pe_int (fun _ _ => rfl)) pa_nil)))))
    (pss_one (ps_ret (pe_and (pe_cmpR op_notN (pv 3) pe_non (nomark _)) (pe_one (pe_cmpR (op_eqL hr.units) (pv 3) (pe_ix ix_tup (pv 2) pe_int (fun _ _ => rfl)) (nomark _))))))))), ?_⟩
  refine rd_start (show start ["_law_heap", "_law_picks", "_law_pair", "_law_left"] [_, _, _] = [some _, some _, some _, none] from rfl) ?_
  have e0 : SqT K H t [V.ref f, V.ref r] := SqT.of et
  have nn : ∀ p ∈ ns, 0 ≤ p := fun p hp => (ok.bound p hp).1
  have okd : Ok7 ds := (run.ok7 ok).perm pm.symm
  have fm := no_ways hw pm pw (run.nonneg nn)
  have rl := run.wt nn
  have wn := wt_nonneg fun p hp => (okd.bound p hp).1
  rw [← wt_perm pm] at rl
  have lx := tp.length
  have dl : ds.length ≤ 65 := okd.1
  have nl : ns.length ≤ 65 := ok.1
  walk_at "rh"
  refine rd_isi (.tup et) rfl rfl ?_
  walk_at "rh"
  refine ⟨f, ds, rfl, ef, by unfold lim; omega, fm, ?_⟩
  walk_at "rh"
  refine ⟨a, ns, rfl, ea, by omega, fun H1 s1 => ?_⟩
  have e1 : SqT K H1 t [V.ref f, V.ref r] := SqT.of (s1 _ _ et)
  walk_at "rh"
  refine ⟨f, ds, rfl, s1 _ _ ef, by omega, fun H2 s2 => ?_⟩
  have sm := s1.trans s2
  have e2 : SqT K H2 t [V.ref f, V.ref r] := SqT.of (sm _ _ et)
  walk_at "rh"
  refine if_dF (by omega) ?_
  walk_at "rh"
  refine ⟨a, b, r, ns, ps, xs, row, hs', ds, rfl, sm _ _ ea, sm _ _ eb, sm _ _ er, tp.same sm, ok, by omega, run, hw, pm, pw, fun d H3 s3 n3 e3 => ?_⟩
  have sm3 := sm.trans s3
  have e2' : SqT K H3 t [V.ref f, V.ref r] := SqT.of (sm3 _ _ et)
  walk_at "rh"
  refine ⟨rfl, ?_⟩
  walk_at "rh"
  refine rd_eqL (ns := ds) (ms := ds) (SqL.of e3) (SqL.of (sm3 _ _ ef)) ?_
  rw [decide_eq_true rfl]
  exact q H3 sm3
end
end K07

namespace K07
open PySem L2 SpM Sp
section
variable {P : Program} {w : World} {K : PySem.W.Frag} {mg : Str → Option Value} {base : Heap} {f : Addr} {fd : FuncData} {CS CN CF CT CP CL Pt : Addr}
variable {fa_settled fa__law_cell_at fa__law_members fa__law_right : Addr} {fd_settled fd__law_cell_at fd__law_members fd__law_right : FuncData}
theorem ok_law (F : Fun K "law" "law" s_law f fd) (B : Bi mg) (D1_settled : Binds K fd_settled ["heap", "picks"] [.none])
    (G_settled : FnOk P w K mg base CX0 4 fa_settled fd_settled ["heap", "picks"] (spSettled Pt (lamP s_settled) "settled.<locals>.<lambda>"))
    (D_settled : Df K mg "settled" fa_settled fd_settled ["heap", "picks"])
    (G__law_cell_at : FnOk P w K mg base CX0 1 fa__law_cell_at fd__law_cell_at ["_law_script", "_law_k"] (spCell K))
    (D__law_cell_at : Df K mg "_law_cell_at" fa__law_cell_at fd__law_cell_at ["_law_script", "_law_k"])
    (G__law_members : FnOk P w K mg base CX0 1 fa__law_members fd__law_members ["_law_many"] (spMembers K))
    (D__law_members : Df K mg "_law_members" fa__law_members fd__law_members ["_law_many"])
    (G__law_right : FnOk P w K mg base CX0 4 fa__law_right fd__law_right ["_law_heap", "_law_picks", "_law_pair"] (spRight))
    (D__law_right : Df K mg "_law_right" fa__law_right fd__law_right ["_law_heap", "_law_picks", "_law_pair"]) : FnOk P w K mg base CX0 5 f fd ["_law_script"] (spLawT K Pt) := by
  refine F.ok sc_law (fun vs H Q E h => ?_) (fun cdv A outer s H vs Q E hr h => ?_)
  · obtain ⟨a, ns, rfl, _⟩ := h
    rfl
  obtain ⟨a, ns, rfl, hS, hlen, hT, q⟩ := h
  refine ⟨_, (pss_cons (ps_set (i := 1) sc_law.nd rfl (Or.inr rfl) (pcall G__law_cell_at D__law_cell_at (hr.mono (by decide)) (pa_cons (pv 0) (pa_cons pe_int pa_nil))))
    (pss_cons (ps_set (i := 2) sc_law.nd rfl (Or.inl rfl) (pe_slice sl_list (pv 0) (po_some pe_int) (po_some pe_int)))
    (pss_cons (ps_if (pt_cmpR op_eq (pe_op op_mod (pe_op op_fdiv (pv 1) pe_int) pe_int) pe_int (nomark _)) (pss_one (ps_set (i := 2) sc_law.nd rfl (Or.inl rfl) (pe_slice sl_list (pv 2) po_none (po_some pe_int)))) pss_nil)
    (pss_cons (ps_setC (i := 3) (own := ["_law_one"]) (fn := ["_law_cell"]) (fr := [1]) rfl ⟨rfl, by decide +kernel, rfl, by decide +kernel, (List.forall_mem_cons.mpr ⟨rfl, List.forall_mem_nil _⟩), by decide +kernel, (List.forall_mem_cons.mpr ⟨⟨_, rfl⟩, List.forall_mem_nil _⟩), rfl, (List.forall_mem_cons.mpr ⟨⟨rfl, rfl⟩, List.forall_mem_nil _⟩)⟩ (pi_list (pv 2)) (fun _ _ _ _ => (pg_name (i := 0) (show (["_law_one", "_law_cell"] : List Str).Nodup by decide +kernel) rfl (Or.inl rfl))) (fun _ _ _ _ => pts_nil) (fun _ _ _ _ => (pe_op op_mod (pv 0) (pe_ix (ix_listK (K := K)) (pe_lst (pa_cons pe_int (pa_cons pe_int (pa_cons pe_int (pa_cons pe_int pa_nil))))) (pe_op op_mod (pv 1) pe_int) (fun _ _ => rfl)))) sc_law.nd rfl (Or.inl rfl))
    (pss_cons (ps_if (pt_cmpR op_eq (pe_op op_mod (pe_op op_fdiv (pv 1) pe_int) pe_int) pe_int (nomark _)) (pss_one (ps_set (i := 3) sc_law.nd rfl (Or.inl rfl) (pe_op op_cat (pv 3) (pe_lst (pa_cons (pe_op op_add pe_int (pe_op op_mod (pe_op op_fdiv (pv 1) pe_int) pe_int)) (pa_cons (pe_op op_add pe_int (pe_op op_mod (pe_op op_fdiv (pv 1) pe_int) pe_int)) pa_nil)))))) pss_nil)
    (pss_cons (ps_set (i := 4) sc_law.nd rfl (Or.inl rfl) (pe_lst pa_nil))
    (pss_cons (ps_for PassesOwn.never rfl (pi_list (pe_lst (pa_cons pe_int (pa_cons pe_int (pa_cons pe_int pa_nil))))) (pg_name (i := 5) sc_law.nd rfl (Or.inr rfl)) (pss_one (ps_set (i := 4) sc_law.nd rfl (Or.inl rfl) (pe_op op_cat (pv 4) (pe_comp (own := ["_law_one"]) (fn := ["_law_prime"]) (fr := [5]) rfl ⟨rfl, by decide +kernel, rfl, by decide +kernel, (List.forall_mem_cons.mpr ⟨rfl, List.forall_mem_nil _⟩), by decide +kernel, (List.forall_mem_cons.mpr ⟨⟨_, rfl⟩, List.forall_mem_nil _⟩), rfl, (List.forall_mem_cons.mpr ⟨⟨rfl, rfl⟩, List.forall_mem_nil _⟩)⟩ (pi_list (pv 2)) (fun _ _ _ _ => (pg_name (i := 0) (show (["_law_one", "_law_prime"] : List Str).Nodup by decide +kernel) rfl (Or.inl rfl))) (fun _ _ _ _ => pts_nil) (fun _ _ _ _ => (pe_op op_mod (pe_op op_mul (pv 0) pe_int) (pv 1))))))))
    (pss_cons (ps_set (i := 6) sc_law.nd rfl (Or.inl rfl) (pe_lst (pa_cons (plist B.list (pv 3)) (pa_cons (plist B.list (pv 4)) pa_nil))))
    (pss_cons (ps_set (i := 7) sc_law.nd rfl (Or.inl rfl) (pcall G_settled D_settled (hr.mono (by decide)) (pa_cons (pe_ix ix_list (pv 6) pe_int (fun _ _ => rfl)) (pa_cons (pe_ix ix_list (pv 6) pe_int (fun _ _ => rfl)) pa_nil))))
    (pss_cons (ps_if (PW.pt (pw_or (pt_cmpR (op_neD hr.units) (pv 6) (pe_lst (pa_cons (pv 3) (pa_cons (pv 4) pa_nil))) (nomark _)) (pw_or1 (pt_not (pt_val (pcall G__law_right D__law_right (hr.mono (by decide)) (pa_cons (pv 3) (pa_cons (pv 4) (pa_cons (pv 7) pa_nil))))))))) (pss_one (ps_ret pe_bl)) pss_nil)
    (pss_cons (ps_set (i := 8) sc_law.nd rfl (Or.inl rfl) (prev B.list B.rev (pv 3)))
    (pss_cons (ps_if (pt_cmpR op_eq (pe_op op_mod (pe_op op_fdiv (pv 1) pe_int) pe_int) pe_int (nomark _)) (pss_one (ps_set (i := 9) sc_law.nd rfl (Or.inl rfl) (pcallD G_settled D_settled D1_settled (show Vals [V.non] [Value.none] from .cons rfl .nil) (hr.mono (by decide)) (pa_cons (pv 8) pa_nil)))) (pss_one (ps_set (i := 9) sc_law.nd rfl (Or.inl rfl) (pcall G_settled D_settled (hr.mono (by decide)) (pa_cons (pv 8) (pa_cons pe_non pa_nil))))))
    (pss_cons (ps_if (PW.pt (pw_or (pt_cmpR (op_neL hr.units) (pv 8) (prev B.list B.rev (pv 3)) (nomark _)) (pw_or (pt_not (pt_val (pcall G__law_right D__law_right (hr.mono (by decide)) (pa_cons (pv 8) (pa_cons (pe_lst pa_nil) (pa_cons (pv 9) pa_nil)))))) (pw_or1 (pt_cmpR (op_neL hr.units) (pe_ix ix_tup (pv 9) pe_int (fun _ _ => rfl)) (pe_ix ix_tup (pv 7) pe_int (fun _ _ => rfl)) (nomark _)))))) (pss_one (ps_ret pe_bl)) pss_nil)
    (pss_cons (ps_expr (pe_bm0 PySem.F.plainAttrs_list PySem.F.slot_list_clear PySem.F.type_list_clear mt_clear (pe_ix ix_tup (pv 7) pe_int (fun _ _ => rfl))))
    (pss_cons (ps_expr (pe_bm PySem.F.plainAttrs_list PySem.F.slot_list_append PySem.F.type_list_append mt_append (pe_ix ix_tup (pv 9) pe_int (fun _ _ => rfl)) (pa_cons pe_int pa_nil)))
    (pss_cons (ps_if (PW.pt (pw_or (pt_cmpR (op_neD hr.units) (pv 6) (pe_lst (pa_cons (pv 3) (pa_cons (pv 4) pa_nil))) (nomark _)) (pw_or1 (pt_cmpR (op_neL hr.units) (pv 8) (prev B.list B.rev (pv 3)) (nomark _))))) (pss_one (ps_ret pe_bl)) pss_nil)
    (pss_cons (ps_set (i := 10) sc_law.nd rfl (Or.inr rfl) (pcall G__law_members D__law_members (hr.mono (by decide)) (pa_cons pe_int pa_nil)))
    (pss_one (ps_ret (pe_cmpR op_eq (psum B.sum (pe_comp (own := ["_law_place"]) (fn := ["_law_row"]) (fr := [10]) rfl ⟨rfl, by decide +kernel, rfl, by decide +kernel, (List.forall_mem_cons.mpr ⟨rfl, List.forall_mem_nil _⟩), by decide +kernel, (List.forall_mem_cons.mpr ⟨⟨_, rfl⟩, List.forall_mem_nil _⟩), rfl, (List.forall_mem_cons.mpr ⟨⟨rfl, rfl⟩, List.forall_mem_nil _⟩)⟩ (pi_list (pe_ix ix_tup (pv 7) pe_int (fun _ _ => rfl))) (fun _ _ _ _ => (pg_name (i := 0) (show (["_law_place", "_law_row"] : List Str).Nodup by decide +kernel) rfl (Or.inl rfl))) (fun _ _ _ _ => pts_nil) (fun _ _ _ _ => (pe_ix (ix_listK (K := K)) (pv 1) (pv 0) (fun _ _ => rfl))))) (psum B.sum (pe_comp (own := ["_law_place"]) (fn := ["_law_row"]) (fr := [10]) rfl ⟨rfl, by decide +kernel, rfl, by decide +kernel, (List.forall_mem_cons.mpr ⟨rfl, List.forall_mem_nil _⟩), by decide +kernel, (List.forall_mem_cons.mpr ⟨⟨_, rfl⟩, List.forall_mem_nil _⟩), rfl, (List.forall_mem_cons.mpr ⟨⟨rfl, rfl⟩, List.forall_mem_nil _⟩)⟩ (pi_list (pv 3)) (fun _ _ _ _ => (pg_name (i := 0) (show (["_law_place", "_law_row"] : List Str).Nodup by decide +kernel) rfl (Or.inl rfl))) (fun _ _ _ _ => pts_nil) (fun _ _ _ _ => (pe_ix (ix_listK (K := K)) (pv 1) (pv 0) (fun _ _ => rfl))))) (nomark _))))))))))))))))))))), ?_⟩
  refine rd_start (show start ["_law_script", "_law_cell", "_law_cells", "_law_heap", "_law_picks", "_law_prime", "_law_handed", "_law_pair", "_law_turned", "_law_other", "_law_row"] [_] = [some _, none, none, none, none, none, none, none, none, none, none] from rfl) ?_
  obtain ⟨cs0, ec0, lc0⟩ : ∃ cs : List Int, cutV (ns.map V.int) (some 1) (some 64) = iv cs ∧ cs.length ≤ 63 := cut_iv ns 1 64
  generalize hc : ns.getD 0 0 = c
  have T0 : LamT H Pt (lamP s_settled) "settled.<locals>.<lambda>" := .inl hT
  walk_at "rh"
  refine ⟨a, ns, 0, rfl, hS, ?_⟩
  rw [hc]
  walk_at "rh"
  refine new_ fun cl0 H1 s1 n1 e1 => ?_
  rw [ec0] at e1
  refine rd_gName ?_
  dsimp only
  refine rd_seqK (fun σ H' => ∃ cl cs, σ = [some (.ref a), some (.int c), some (.ref cl), none, none, none, none, none, none, none, none] ∧ Same H H' ∧ H' cl = some (.lst (iv cs)) ∧ cs.length ≤ 63) ?_ fun key => ?_
  case refine_2 =>
    walk_at "rh"
    refine if_d (fun d => ?_) fun d => ?_
    · walk_at "rh"
      refine new_ fun cl1 H2 s2 n2 e2 => ?_
      obtain ⟨cs1, ec1, lc1⟩ : ∃ cs : List Int, cutV (iv cs0) none (some 40) = iv cs ∧ cs.length ≤ 63 := by
        refine ⟨(cs0.drop 0).take (min 40 cs0.length - 0), ?_, ?_⟩
        · unfold cutV iv
          rw [HT.sIx_none, show (some (40 : Int)) = some ((40 : Nat) : Int) from rfl, HT.sIx_nat, List.length_map, List.map_take, List.map_drop]
        · rw [List.length_take, List.length_drop]; omega
      rw [ec1] at e2
      refine rd_gName ?_
      exact key _ _ ⟨cl1, cs1, rfl, s1.trans s2, e2, lc1⟩
    · exact key _ _ ⟨cl0, cs0, rfl, s1, e1, lc0⟩
  clear s1 n1 e1
  rintro σ H1 ⟨cl, cs, rfl, s1, ecl, lc⟩
  obtain ⟨m, hm, m0, m20⟩ := menu7 c
  walk_at "rh"
  refine compI (ns := cs) (fun n => .int (n % m)) (SqL.of ecl) (by omega) rfl (fun n hn H3 s3 R hR => ?_) (fun hp0 H2 s2 n2 e2 => ?_)
  · walk_at "rh"
    refine newZ (by walk_at "sz") fun z H4 s4 n4 e4 => ?_
    walk_at "rh"
    refine rd_ixL (SqL.of e4) hm ?_
    refine rd_i m0 ?_
    exact hR _ s4
  have e2' : H2 hp0 = some (.lst (iv (cs.map (· % m)))) := by
    rw [e2]
    unfold iv
    rw [List.map_map]
    rfl
  have lo : ∀ p ∈ cs.map (· % m), 0 ≤ p ∧ p < 20 := fun p hp => by
    obtain ⟨x, _, rfl⟩ := List.mem_map.mp hp
    have := Int.emod_nonneg x (show m ≠ 0 by omega)
    have := Int.emod_lt_of_pos x m0
    omega
  have ll : (cs.map (· % m)).length ≤ 63 := by rw [List.length_map]; exact lc
  refine rd_gName ?_
  dsimp only
  refine rd_seqK (fun σ H' => ∃ hp hs, σ = [some (.ref a), some (.int c), some (.ref cl), some (.ref hp), none, none, none, none, none, none, none] ∧ Same H H' ∧ H' cl = some (.lst (iv cs)) ∧ H' hp = some (.lst (iv hs)) ∧ Ok7 hs ∧ wt hs ≤ 90000) ?_ fun key => ?_
  case refine_2 =>
    walk_at "rh"
    refine if_d (fun d => ?_) fun d => ?_
    · walk_at "rh"
      refine newZ (by walk_at "sz") fun z H4 s4 n4 e4 => ?_
      refine rd_cat (s4 _ _ e2') e4 (by walk_at "sz") (new_ fun hp1 H5 s5 n5 e5 => ?_)
      refine rd_gName ?_
      have hb : 0 ≤ c / 16 % 890 ∧ c / 16 % 890 < 890 := by omega
      obtain ⟨o1, o2⟩ := ok7_high (x := 100 + c / 16 % 890) lo ll (by omega) (by omega)
      refine key _ _ ⟨hp1, cs.map (· % m) ++ [100 + c / 16 % 890, 100 + c / 16 % 890 + 1], rfl, s1.trans (s2.trans (s4.trans s5)), s5 _ _ (s4 _ _ (s2 _ _ ecl)), ?_, o1, o2⟩
      rw [e5]
      unfold iv
      rw [List.map_append]
      congr 3
      show [V.int (100 + c / 16 % 890), V.int (101 + c / 16 % 890)] = [V.int (100 + c / 16 % 890), V.int (100 + c / 16 % 890 + 1)]
      congr 3
      omega
    · obtain ⟨o1, o2⟩ := ok7_low lo ll
      exact key _ _ ⟨hp0, _, rfl, s1.trans s2, s2 _ _ ecl, e2', o1, o2⟩
  clear s1 s2 n2 e2 e2' lo ll ecl hm m0 m20
  rintro σ H1 ⟨hp, hs, rfl, s1, ecl, ehp, ok, wz⟩
  have hl65 : hs.length ≤ 65 := ok.1
  walk_at "rh"
  refine newZ (by walk_at "sz") fun pl0 H2 s2 n2 e2 => ?_
  walk_at "rh"
  refine newZ (by walk_at "sz") fun pr H3 s3 n3 e3 => ?_
  have e3' : H3 pr = some (.lst (iv [65537, 99991, 1000003])) := e3
  refine forL (xs := iv [65537, 99991, 1000003]) (fun i σ H4 => ∃ pl ps v, σ = [some (.ref a), some (.int c), some (.ref cl), some (.ref hp), some (.ref pl), v, none, none, none, none, none] ∧ Same H3 H4 ∧ H4 pl = some (.lst (iv ps)) ∧ ps.length ≤ 63 * i)
    (SqL.of e3') ⟨pl0, [], none, rfl, Same.refl _, s3 _ _ e2, by simp⟩ ?_ ?_ ?_
  · rintro i σ H4 _ ⟨pl, ps, v, rfl, sm, _⟩
    exact SqL.of (sm _ _ e3')
  · rintro i x σ H4 hx ⟨pl, ps, v, rfl, sm, epl, lp⟩
    obtain ⟨y, hy, rfl⟩ := iv_get hx
    have i3 : i < 3 := by
      have := (List.getElem?_eq_some_iff.mp hy).1
      simpa using this
    have y0 : 0 < y := by
      have := List.mem_of_getElem? hy
      simp at this
      omega
    walk_at "rh"
    refine compI (ns := cs) (fun n => .int (n * 48271 % y)) (SqL.of (sm _ _ (s3 _ _ (s2 _ _ ecl)))) (by omega) rfl (fun n hn H6 s6 R hR => ?_) (fun pq H5 s5 n5 e5 => ?_)
    · walk_at "rh"
      refine rd_i y0 ?_
      exact hR _ (Same.refl _)
    have e5' : H5 pq = some (.lst (iv (cs.map (· * 48271 % y)))) := by
      rw [e5]
      unfold iv
      rw [List.map_map]
      rfl
    refine rd_cat (s5 _ _ epl) e5' (by rw [iv_length, iv_length, List.length_map]; exact dec_le_size (by omega)) (new_ fun p2 H6 s6 n6 e6 => ?_)
    walk_at "rh"
    refine ⟨p2, ps ++ cs.map (· * 48271 % y), _, rfl, sm.trans (s5.trans s6), ?_, by rw [List.length_append, List.length_map]; omega⟩
    rw [e6]
    unfold iv
    rw [List.map_append]
  rintro σ H4 ⟨pl, ps, v, rfl, sm, epl, lp⟩
  have lp' : ps.length ≤ 189 := by simpa [iv_length] using lp
  have ehp4 : H4 hp = some (.lst (iv hs)) := sm _ _ (s3 _ _ (s2 _ _ ehp))
  have T4 := T0.same (s1.trans (s2.trans (s3.trans sm)))
  clear s1 s2 s3 sm n2 n3 e2 e3 e3' ecl ehp lp
  walk_at "rh"
  refine new_ fun h1 H5 s5 n5 e5 => ?_
  walk_at "rh"
  refine new_ fun h2 H6 s6 n6 e6 => ?_
  walk_at "rh"
  refine newZ (by walk_at "sz") fun hd H7 s7 n7 e7 => ?_
  have s47 := s5.trans (s6.trans s7)
  have ehp7 := s47 _ _ ehp4
  have epl7 := s47 _ _ epl
  have eh1 : H7 h1 = some (.lst (iv hs)) := s7 _ _ (s6 _ _ e5)
  have eh2 : H7 h2 = some (.lst (iv ps)) := s7 _ _ e6
  have T7 := T4.same s47
  clear s5 s6 s7 s47 n5 n6 n7 e5 e6 ehp4 epl T4
  walk_at "rh"
  refine ⟨h1, .ref h2, hs, ps, rfl, eh1, T7, .inr ⟨h2, rfl, eh2⟩, by omega, ok, wz, fun row hs' ds run ok' hw pm pw t f r xs H8 sX T8 pa => ?_⟩
  obtain ⟨_, et, nf, ef, nr, er, tp, nfr⟩ := pa
  have ehp8 := LamT.keepL T7 sX ehp7
  have epl8 := LamT.keepL T7 sX epl7
  have eh18 := LamT.keepL T7 sX eh1
  have eh28 := LamT.keepL T7 sX eh2
  have ehd8 := LamT.keepL T7 sX e7
  have nhpf : hp ≠ f := ne_of_none ehp7 nf
  have nhpr : hp ≠ r := ne_of_none ehp7 nr
  have nplr : pl ≠ r := ne_of_none epl7 nr
  have nh1r : h1 ≠ r := ne_of_none eh1 nr
  have nh2r : h2 ≠ r := ne_of_none eh2 nr
  have nhdr : hd ≠ r := ne_of_none e7 nr
  have nn : ∀ p ∈ hs, 0 ≤ p := fun p hp => (ok.bound p hp).1
  have okd : Ok7 ds := (run.ok7 ok).perm pm.symm
  have fmd := no_ways hw pm pw (run.nonneg nn)
  have vd : val ds = val hs := by rw [val_perm pm, run.val nn]
  clear sX T7 ehp7 epl7 eh1 eh2 e7
  have hdD : ∀ {H' : Hp}, H' hd = some (.lst [.ref h1, .ref h2]) → H' h1 = some (.lst (iv hs)) → H' h2 = some (.lst (iv ps)) → Dat K H' (.ref hd) (.list [dI hs, dI ps]) := fun a1 a2 a3 => .lst (SqL.of a1) (.cons (Dat.ints (SqL.of a2)) (.cons (Dat.ints (SqL.of a3)) .nil))
  walk_at "rh"
  refine newZ (by walk_at "sz") fun z H9 s9 n9 e9 => ?_
  refine rd_neD (hdD (s9 _ _ ehd8) (s9 _ _ eh18) (s9 _ _ eh28)) (.lst (SqL.of e9) (.cons (Dat.ints (SqL.of (s9 _ _ ehp8))) (.cons (Dat.ints (SqL.of (s9 _ _ epl8))) .nil))) (shapeI2 hs ps) ?_
  walk_at "rh"
  refine ⟨hp, pl, t, f, r, hs, ps, xs, row, hs', ds, rfl, s9 _ _ ehp8, s9 _ _ epl8, s9 _ _ et, s9 _ _ ef, s9 _ _ er, tp.same s9, ok, wz, run, hw, pm, pw, fun H10 s10 => ?_⟩
  have s810 := s9.trans s10
  have T10 := T8.same s810
  have ehp10 := s810 _ _ ehp8
  have epl10 := s810 _ _ epl8
  have eh110 := s810 _ _ eh18
  have eh210 := s810 _ _ eh28
  have ehd10 := s810 _ _ ehd8
  have et10 := s810 _ _ et
  have ef10 := s810 _ _ ef
  have er10 := s810 _ _ er
  clear s9 s10 s810 n9 e9 T8 ehp8 epl8 eh18 eh28 ehd8 et ef er tp nf nr
  walk_at "rh"
  refine revL (SqL.of ehp10) (new_ fun tn H11 s11 n11 e11 => ?_)
  rw [iv_reverse] at e11
  refine rd_gName ?_
  dsimp only
  have okr : Ok7 hs.reverse := ok.perm (List.reverse_perm hs).symm
  have wzr : wt hs.reverse ≤ 90000 := by rw [wt_perm (List.reverse_perm hs)]; exact wz
  refine rd_seqK (fun σ H' => ∃ (t2 f2 r2 : Addr) (xs2 : List V) (row2 : List Stp) (hs2 ds2 : List Int), σ = [some (.ref a), some (.int c), some (.ref cl), some (.ref hp), some (.ref pl), v, some (.ref hd), some (.ref t), some (.ref tn), some (.ref t2), none] ∧
    SameX Pt H11 H' ∧ PairAt H11 H' t2 f2 r2 xs2 ds2 row2 ∧ Run (pickOf []) hs.reverse row2 hs2 ∧ IsWays hs2 [] ∧ ds2.Perm hs2 ∧ ds2.Pairwise (· ≥ ·)) ?_ fun key => ?_
  case refine_2 =>
    walk_at "rh"
    refine if_d (fun d => ?_) fun d => ?_
    · refine rd_asg (rd_callD ?_)
      walk_at "rh"
      refine ⟨tn, .non, hs.reverse, [], rfl, e11, T10.same s11, .inl ⟨rfl, rfl⟩, by simp, okr, wzr, fun row2 hs2 ds2 run2 ok2 hw2 pm2 pw2 t2 f2 r2 xs2 H12 sX2 T12 pa2 => ?_⟩
      refine rd_gName ?_
      exact key _ _ ⟨t2, f2, r2, xs2, row2, hs2, ds2, rfl, sX2, pa2, run2, hw2, pm2, pw2⟩
    · walk_at "rh"
      refine ⟨tn, .non, hs.reverse, [], rfl, e11, T10.same s11, .inl ⟨rfl, rfl⟩, by simp, okr, wzr, fun row2 hs2 ds2 run2 ok2 hw2 pm2 pw2 t2 f2 r2 xs2 H12 sX2 T12 pa2 => ?_⟩
      refine rd_gName ?_
      exact key _ _ ⟨t2, f2, r2, xs2, row2, hs2, ds2, rfl, sX2, pa2, run2, hw2, pm2, pw2⟩
  rintro σ H12 ⟨t2, f2, r2, xs2, row2, hs2, ds2, rfl, sX2, ⟨_, et2, nf2, ef2, nr2, er2, tp2, nfr2⟩, run2, hw2, pm2, pw2⟩
  have T11 := T10.same s11
  have ehp12 := LamT.keepL T11 sX2 (s11 _ _ ehp10)
  have epl12 := LamT.keepL T11 sX2 (s11 _ _ epl10)
  have eh112 := LamT.keepL T11 sX2 (s11 _ _ eh110)
  have eh212 := LamT.keepL T11 sX2 (s11 _ _ eh210)
  have ehd12 := LamT.keepL T11 sX2 (s11 _ _ ehd10)
  have et12 := LamT.keepT T11 sX2 (s11 _ _ et10)
  have ef12 := LamT.keepL T11 sX2 (s11 _ _ ef10)
  have er12 := LamT.keepL T11 sX2 (s11 _ _ er10)
  have etn12 := LamT.keepL T11 sX2 e11
  have n1 : hp ≠ f2 := ne_of_none (s11 _ _ ehp10) nf2
  have n2 : pl ≠ f2 := ne_of_none (s11 _ _ epl10) nf2
  have n3 : h1 ≠ f2 := ne_of_none (s11 _ _ eh110) nf2
  have n4 : h2 ≠ f2 := ne_of_none (s11 _ _ eh210) nf2
  have n5 : hd ≠ f2 := ne_of_none (s11 _ _ ehd10) nf2
  have n6 : f ≠ f2 := ne_of_none (s11 _ _ ef10) nf2
  have n7 : tn ≠ f2 := ne_of_none e11 nf2
  have n8 : tn ≠ r := Ne.symm (ne_of_none er10 n11)
  have n9 : t ≠ f2 := ne_of_none (s11 _ _ et10) nf2
  have n10 : t ≠ r := ne_of et12 er12 (by intro z; cases z)
  have n11' : t2 ≠ r := ne_of et2 er12 (by intro z; cases z)
  have n12 : f2 ≠ r := Ne.symm (ne_of_none (s11 _ _ er10) nf2)
  have nn2 : ∀ p ∈ hs.reverse, 0 ≤ p := fun p hp => nn p (List.mem_reverse.mp hp)
  have fm2 := no_ways hw2 pm2 pw2 (run2.nonneg nn2)
  have vd2 : val ds2 = val hs := by rw [val_perm pm2, run2.val nn2, val_perm (List.reverse_perm hs)]
  have eds : ds2 = ds := form_unique fm2 fmd (by rw [vd2, vd])
  subst eds
  clear sX2 T11 nf2 nr2 ehp10 epl10 eh110 eh210 ehd10 et10 ef10 er10 s11 e11 n11 T10
  have dl : ds2.length ≤ 65 := okd.1
  walk_at "rh"
  refine revL (SqL.of ehp12) (new_ fun z1 H13 s13 n13 e13 => ?_)
  rw [iv_reverse] at e13
  refine rd_neL (ns := hs.reverse) (ms := hs.reverse) (SqL.of (s13 _ _ etn12)) (SqL.of e13) ?_
  walk_at "rh"
  refine if_ndF rfl ?_
  walk_at "rh"
  refine newZ (by walk_at "sz") fun z2 H14 s14 n14 e14 => ?_
  have s1214 := s13.trans s14
  walk_at "rh"
  refine ⟨tn, z2, t2, f2, r2, hs.reverse, [], xs2, row2, hs2, ds2, rfl, s1214 _ _ etn12, e14, s1214 _ _ et2, s1214 _ _ ef2, s1214 _ _ er2, tp2.same s1214, okr, wzr, run2, hw2, pm2, pw2, fun H15 s15 => ?_⟩
  have s1215 := s1214.trans s15
  have et215 : SqT K H15 t2 [V.ref f2, V.ref r2] := SqT.of (s1215 _ _ et2)
  have et15 : SqT K H15 t [V.ref f, V.ref r] := SqT.of (s1215 _ _ et12)
  walk_at "rh"
  refine rd_neL (ns := ds2) (ms := ds2) (SqL.of (s1215 _ _ ef2)) (SqL.of (s1215 _ _ ef12)) ?_
  walk_at "rh"
  refine if_ndF rfl ?_
  have er15 := s1215 _ _ er12
  walk_at "rh"
  refine rd_clear er15 ?_
  have k16 : ∀ b o, b ≠ r → H15 b = some o → upd H15 r (.lst []) b = some o := fun b o nb e => by rw [upd_ne nb]; exact e
  have et216 : SqT K (upd H15 r (.lst [])) t2 [V.ref f2, V.ref r2] := SqT.of (k16 _ _ n11' (s1215 _ _ et2))
  have ef216 := k16 _ _ n12 (s1215 _ _ ef2)
  have ehp16 := k16 _ _ nhpr (s1215 _ _ ehp12)
  have epl16 := k16 _ _ nplr (s1215 _ _ epl12)
  have eh116 := k16 _ _ nh1r (s1215 _ _ eh112)
  have eh216 := k16 _ _ nh2r (s1215 _ _ eh212)
  have ehd16 := k16 _ _ nhdr (s1215 _ _ ehd12)
  have et16 := k16 _ _ n10 (s1215 _ _ et12)
  have ef16 := k16 _ _ nfr (s1215 _ _ ef12)
  have etn16 := k16 _ _ n8 (s1215 _ _ etn12)
  clear k16
  generalize upd H15 r (.lst []) = H16 at *
  walk_at "rh"
  refine rd_append ef216 (by rw [iv_length]; exact smallL (by unfold lim; omega)) ?_
  have k17 : ∀ b o, b ≠ f2 → H16 b = some o → upd H16 f2 (.lst (iv ds2 ++ [.int 2000])) b = some o := fun b o nb e => by rw [upd_ne nb]; exact e
  have ehp17 := k17 _ _ n1 ehp16
  have epl17 := k17 _ _ n2 epl16
  have eh117 := k17 _ _ n3 eh116
  have eh217 := k17 _ _ n4 eh216
  have ehd17 := k17 _ _ n5 ehd16
  have et17 := k17 _ _ n9 et16
  have ef17 := k17 _ _ n6 ef16
  have etn17 := k17 _ _ n7 etn16
  clear k17
  generalize upd H16 f2 (.lst (iv ds2 ++ [.int 2000])) = H17 at *
  walk_at "rh"
  refine newZ (by walk_at "sz") fun z3 H18 s18 n18 e18 => ?_
  refine rd_neD (hdD (s18 _ _ ehd17) (s18 _ _ eh117) (s18 _ _ eh217)) (.lst (SqL.of e18) (.cons (Dat.ints (SqL.of (s18 _ _ ehp17))) (.cons (Dat.ints (SqL.of (s18 _ _ epl17))) .nil))) (shapeI2 hs ps) ?_
  have ehp18 := s18 _ _ ehp17
  walk_at "rh"
  refine revL (SqL.of ehp18) (new_ fun z4 H19 s19 n19 e19 => ?_)
  rw [iv_reverse] at e19
  refine rd_neL (ns := hs.reverse) (ms := hs.reverse) (SqL.of (s19 _ _ (s18 _ _ etn17))) (SqL.of e19) ?_
  walk_at "rh"
  refine if_ndF rfl ?_
  walk_at "rh"
  refine ⟨1000, rfl, by decide, fun rr H20 s20 n20 e20 => ?_⟩
  have s1720 := s18.trans (s19.trans s20)
  have et20 : SqT K H20 t [V.ref f, V.ref r] := SqT.of (s1720 _ _ et17)
  have ef20 := s1720 _ _ ef17
  have ehp20 := s1720 _ _ ehp17
  walk_at "rh"
  refine ⟨f, rfl, ⟨_, SqL.of ef20⟩, fun D1 hD1 => comp_row hD1 ef20 e20 (by unfold lim; omega) (fun p hp => by have := okd.bound p hp; omega) rfl fun H21 s21 e21 => ?_⟩
  walk_at "rh"
  refine rd_sum (SqL.of e21) ?_
  walk_at "rh"
  refine ⟨hp, rfl, ⟨_, SqL.of (s21 _ _ ehp20)⟩, fun D2 hD2 => comp_row hD2 (s21 _ _ ehp20) (s21 _ _ e20) (by unfold lim; omega) (fun p hp => by have := ok.bound p hp; omega) rfl fun H22 s22 e22 => ?_⟩
  walk_at "rh"
  refine rd_sum (SqL.of e22) ?_
  walk_at "rh"
  rw [val_eq_sum, val_eq_sum, vd, decide_eq_true rfl]
  exact q H22
end
end K07

namespace K07
open PySem L2 SpM Sp
theorem all_mk {l : PySem.W.OpenLaw} {w : World} {K : PySem.W.Frag} {h : Heap} {mg : Str → Option Value} {fa f1 f2 f3 f4 f5 f6 f7 f8 f9 f10 f11 f12 f13 f14 f15 f16 f17 f18 f19 f20 f21 cM dt Pt : Addr} (X : K.In h) (G : h.Ns mainGlobals mg) (hfa : mg "law" = some (.ref fa))
    {od1 an1 od2 an2 od3 an3 od4 an4 od5 an5 od6 an6 od7 an7 od8 an8 od9 an9 od10 an10 od11 an11 od12 an12 od13 an13 od14 an14 od15 an15 od16 an16 od17 an17 od18 an18 od19 an19 od20 an20 od21 an21 : Option Addr} {sl1 sl2 sl3 sl4 sl5 sl6 sl7 sl8 sl9 sl10 sl11 sl12 sl13 sl14 sl15 sl16 sl17 sl18 sl19 sl20 sl21 : Array (Option Value)} {oc1 kV1 dc1 pm1 cd1 ct1 oc2 kV2 dc2 pm2 cd2 ct2 oc3 kV3 dc3 pm3 cd3 ct3 oc4 kV4 dc4 pm4 cd4 ct4 oc5 kV5 dc5 pm5 cd5 ct5 oc6 kV6 dc6 pm6 cd6 ct6 oc7 kV7 dc7 pm7 cd7 ct7 oc8 kV8 dc8 pm8 cd8 ct8 oc9 kV9 dc9 pm9 cd9 ct9 oc10 kV10 dc10 pm10 cd10 ct10 oc11 kV11 dc11 pm11 cd11 ct11 oc12 kV12 dc12 pm12 cd12 ct12 oc13 kV13 dc13 pm13 cd13 ct13 oc14 kV14 dc14 pm14 cd14 ct14 oc15 kV15 dc15 pm15 cd15 ct15 oc16 kV16 dc16 pm16 cd16 ct16 oc17 kV17 dc17 pm17 cd17 ct17 oc18 kV18 dc18 pm18 cd18 ct18 oc19 kV19 dc19 pm19 ct19 oc20 kV20 dc20 pm20 cd20 ct20 oc21 kV21 dc21 pm21 cd21 ct21 : Value}
    {odT : Value} {ddT : Option Addr} {ndT : Nat} {slT : Array (Option Value)}
    (a1 : PySem.W.nsIn K mainGlobals "falling" = some (some (.ref f1))) (l1 : K.lookup f1 = some ⟨oc1, od1, .func (PySem.W.fnOf "falling" "falling" (defArgs s_falling) (defBody s_falling) (defScope s_falling) .none kV1 dc1 pm1 an1 cd1 ct1), sl1⟩) (c1 : PySem.W.codeIn K cd1 "falling" = true) (k1 : PySem.W.keepIn K (.ref f1) = true)
    (a2 : PySem.W.nsIn K mainGlobals "put_in" = some (some (.ref f2))) (l2 : K.lookup f2 = some ⟨oc2, od2, .func (PySem.W.fnOf "put_in" "put_in" (defArgs s_put_in) (defBody s_put_in) (defScope s_put_in) .none kV2 dc2 pm2 an2 cd2 ct2), sl2⟩) (c2 : PySem.W.codeIn K cd2 "put_in" = true) (k2 : PySem.W.keepIn K (.ref f2) = true)
    (a3 : PySem.W.nsIn K mainGlobals "take_out" = some (some (.ref f3))) (l3 : K.lookup f3 = some ⟨oc3, od3, .func (PySem.W.fnOf "take_out" "take_out" (defArgs s_take_out) (defBody s_take_out) (defScope s_take_out) .none kV3 dc3 pm3 an3 cd3 ct3), sl3⟩) (c3 : PySem.W.codeIn K cd3 "take_out" = true) (k3 : PySem.W.keepIn K (.ref f3) = true)
    (a4 : PySem.W.nsIn K mainGlobals "steps_among" = some (some (.ref f4))) (l4 : K.lookup f4 = some ⟨oc4, od4, .func (PySem.W.fnOf "steps_among" "steps_among" (defArgs s_steps_among) (defBody s_steps_among) (defScope s_steps_among) .none kV4 dc4 pm4 an4 cd4 ct4), sl4⟩) (c4 : PySem.W.codeIn K cd4 "steps_among" = true) (k4 : PySem.W.keepIn K (.ref f4) = true)
    (a5 : PySem.W.nsIn K mainGlobals "marks_that_go" = some (some (.ref f5))) (l5 : K.lookup f5 = some ⟨oc5, od5, .func (PySem.W.fnOf "marks_that_go" "marks_that_go" (defArgs s_marks_that_go) (defBody s_marks_that_go) (defScope s_marks_that_go) .none kV5 dc5 pm5 an5 cd5 ct5), sl5⟩) (c5 : PySem.W.codeIn K cd5 "marks_that_go" = true) (k5 : PySem.W.keepIn K (.ref f5) = true)
    (a6 : PySem.W.nsIn K mainGlobals "marks_that_come" = some (some (.ref f6))) (l6 : K.lookup f6 = some ⟨oc6, od6, .func (PySem.W.fnOf "marks_that_come" "marks_that_come" (defArgs s_marks_that_come) (defBody s_marks_that_come) (defScope s_marks_that_come) .none kV6 dc6 pm6 an6 cd6 ct6), sl6⟩) (c6 : PySem.W.codeIn K cd6 "marks_that_come" = true) (k6 : PySem.W.keepIn K (.ref f6) = true)
    (a7 : PySem.W.nsIn K mainGlobals "_law_cell_at" = some (some (.ref f7))) (l7 : K.lookup f7 = some ⟨oc7, od7, .func (PySem.W.fnOf "_law_cell_at" "_law_cell_at" (defArgs s__law_cell_at) (defBody s__law_cell_at) (defScope s__law_cell_at) .none kV7 dc7 pm7 an7 cd7 ct7), sl7⟩) (c7 : PySem.W.codeIn K cd7 "_law_cell_at" = true) (k7 : PySem.W.keepIn K (.ref f7) = true)
    (a8 : PySem.W.nsIn K mainGlobals "_law_whole" = some (some (.ref f8))) (l8 : K.lookup f8 = some ⟨oc8, od8, .func (PySem.W.fnOf "_law_whole" "_law_whole" (defArgs s__law_whole) (defBody s__law_whole) (defScope s__law_whole) .none kV8 dc8 pm8 an8 cd8 ct8), sl8⟩) (c8 : PySem.W.codeIn K cd8 "_law_whole" = true) (k8 : PySem.W.keepIn K (.ref f8) = true)
    (a9 : PySem.W.nsIn K mainGlobals "_law_members" = some (some (.ref f9))) (l9 : K.lookup f9 = some ⟨oc9, od9, .func (PySem.W.fnOf "_law_members" "_law_members" (defArgs s__law_members) (defBody s__law_members) (defScope s__law_members) .none kV9 dc9 pm9 an9 cd9 ct9), sl9⟩) (c9 : PySem.W.codeIn K cd9 "_law_members" = true) (k9 : PySem.W.keepIn K (.ref f9) = true)
    (a10 : PySem.W.nsIn K mainGlobals "_law_weight" = some (some (.ref f10))) (l10 : K.lookup f10 = some ⟨oc10, od10, .func (PySem.W.fnOf "_law_weight" "_law_weight" (defArgs s__law_weight) (defBody s__law_weight) (defScope s__law_weight) .none kV10 dc10 pm10 an10 cd10 ct10), sl10⟩) (c10 : PySem.W.codeIn K cd10 "_law_weight" = true) (k10 : PySem.W.keepIn K (.ref f10) = true)
    (a11 : PySem.W.nsIn K mainGlobals "_law_ways" = some (some (.ref f11))) (l11 : K.lookup f11 = some ⟨oc11, od11, .func (PySem.W.fnOf "_law_ways" "_law_ways" (defArgs s__law_ways) (defBody s__law_ways) (defScope s__law_ways) .none kV11 dc11 pm11 an11 cd11 ct11), sl11⟩) (c11 : PySem.W.codeIn K cd11 "_law_ways" = true) (k11 : PySem.W.keepIn K (.ref f11) = true)
    (a12 : PySem.W.nsIn K mainGlobals "_law_behind" = some (some (.ref f12))) (l12 : K.lookup f12 = some ⟨oc12, od12, .func (PySem.W.fnOf "_law_behind" "_law_behind" (defArgs s__law_behind) (defBody s__law_behind) (defScope s__law_behind) .none kV12 dc12 pm12 an12 cd12 ct12), sl12⟩) (c12 : PySem.W.codeIn K cd12 "_law_behind" = true) (k12 : PySem.W.keepIn K (.ref f12) = true)
    (a13 : PySem.W.nsIn K mainGlobals "counted" = some (some (.ref f13))) (l13 : K.lookup f13 = some ⟨oc13, od13, .func (PySem.W.fnOf "counted" "counted" (defArgs s_counted) (defBody s_counted) (defScope s_counted) .none kV13 dc13 pm13 an13 cd13 ct13), sl13⟩) (c13 : PySem.W.codeIn K cd13 "counted" = true) (k13 : PySem.W.keepIn K (.ref f13) = true)
    (a14 : PySem.W.nsIn K mainGlobals "do_step" = some (some (.ref f14))) (l14 : K.lookup f14 = some ⟨oc14, od14, .func (PySem.W.fnOf "do_step" "do_step" (defArgs s_do_step) (defBody s_do_step) (defScope s_do_step) .none kV14 dc14 pm14 an14 cd14 ct14), sl14⟩) (c14 : PySem.W.codeIn K cd14 "do_step" = true) (k14 : PySem.W.keepIn K (.ref f14) = true)
    (a15 : PySem.W.nsIn K mainGlobals "_law_is_step" = some (some (.ref f15))) (l15 : K.lookup f15 = some ⟨oc15, od15, .func (PySem.W.fnOf "_law_is_step" "_law_is_step" (defArgs s__law_is_step) (defBody s__law_is_step) (defScope s__law_is_step) .none kV15 dc15 pm15 an15 cd15 ct15), sl15⟩) (c15 : PySem.W.codeIn K cd15 "_law_is_step" = true) (k15 : PySem.W.keepIn K (.ref f15) = true)
    (a16 : PySem.W.nsIn K mainGlobals "_law_is_form" = some (some (.ref f16))) (l16 : K.lookup f16 = some ⟨oc16, od16, .func (PySem.W.fnOf "_law_is_form" "_law_is_form" (defArgs s__law_is_form) (defBody s__law_is_form) (defScope s__law_is_form) .none kV16 dc16 pm16 an16 cd16 ct16), sl16⟩) (c16 : PySem.W.codeIn K cd16 "_law_is_form" = true) (k16 : PySem.W.keepIn K (.ref f16) = true)
    (a17 : PySem.W.nsIn K mainGlobals "settled_by" = some (some (.ref f17))) (l17 : K.lookup f17 = some ⟨oc17, od17, .func (PySem.W.fnOf "settled_by" "settled_by" (defArgs s_settled_by) (defBody s_settled_by) (defScope s_settled_by) .none kV17 dc17 pm17 an17 cd17 ct17), sl17⟩) (c17 : PySem.W.codeIn K cd17 "settled_by" = true) (k17 : PySem.W.keepIn K (.ref f17) = true)
    (a18 : PySem.W.nsIn K mainGlobals "_law_walked" = some (some (.ref f18))) (l18 : K.lookup f18 = some ⟨oc18, od18, .func (PySem.W.fnOf "_law_walked" "_law_walked" (defArgs s__law_walked) (defBody s__law_walked) (defScope s__law_walked) .none kV18 dc18 pm18 an18 cd18 ct18), sl18⟩) (c18 : PySem.W.codeIn K cd18 "_law_walked" = true) (k18 : PySem.W.keepIn K (.ref f18) = true)
    (a19 : PySem.W.nsIn K mainGlobals "settled" = some (some (.ref f19))) (l19 : K.lookup f19 = some ⟨oc19, od19, .func (PySem.W.fnOf "settled" "settled" (defArgs s_settled) (defBody s_settled) (defScope s_settled) (.ref dt) kV19 dc19 pm19 an19 (.ref cM) ct19), sl19⟩) (c19 : PySem.W.codeIn K (.ref cM) "settled" = true) (k19 : PySem.W.keepIn K (.ref f19) = true)
    (a20 : PySem.W.nsIn K mainGlobals "_law_right" = some (some (.ref f20))) (l20 : K.lookup f20 = some ⟨oc20, od20, .func (PySem.W.fnOf "_law_right" "_law_right" (defArgs s__law_right) (defBody s__law_right) (defScope s__law_right) .none kV20 dc20 pm20 an20 cd20 ct20), sl20⟩) (c20 : PySem.W.codeIn K cd20 "_law_right" = true) (k20 : PySem.W.keepIn K (.ref f20) = true)
    (a21 : PySem.W.nsIn K mainGlobals "law" = some (some (.ref f21))) (l21 : K.lookup f21 = some ⟨oc21, od21, .func (PySem.W.fnOf "law" "law" (defArgs s_law) (defBody s_law) (defScope s_law) .none kV21 dc21 pm21 an21 cd21 ct21), sl21⟩) (c21 : PySem.W.codeIn K cd21 "law" = true) (k21 : PySem.W.keepIn K (.ref f21) = true)
    (ld : K.lookup dt = some ⟨odT, ddT, .seq #[Value.none] ndT, slT⟩)
    (hcd : PySem.W.codeHdIn K cM Pt = true)
    (z_isinstance : PySem.W.nsIn K mainGlobals "isinstance" = some none)
    (z_int : PySem.W.nsIn K mainGlobals "int" = some none)
    (z_bool : PySem.W.nsIn K mainGlobals "bool" = some none)
    (z_len : PySem.W.nsIn K mainGlobals "len" = some none)
    (z_range : PySem.W.nsIn K mainGlobals "range" = some none)
    (z_all : PySem.W.nsIn K mainGlobals "all" = some none)
    (z_sum : PySem.W.nsIn K mainGlobals "sum" = some none)
    (z_zip : PySem.W.nsIn K mainGlobals "zip" = some none)
    (z_list : PySem.W.nsIn K mainGlobals "list" = some none)
    (z_reversed : PySem.W.nsIn K mainGlobals "reversed" = some none)
    (z_max : PySem.W.nsIn K mainGlobals "max" = some none)
    (z_str : PySem.W.nsIn K mainGlobals "str" = some none)
    (z_tuple : PySem.W.nsIn K mainGlobals "tuple" = some none)
    (z_min : PySem.W.nsIn K mainGlobals "min" = some none)
    (z_sorted : PySem.W.nsIn K mainGlobals "sorted" = some none)
    (z_set : PySem.W.nsIn K mainGlobals "set" = some none)
    (z_dict : PySem.W.nsIn K mainGlobals "dict" = some none)
    (z_enumerate : PySem.W.nsIn K mainGlobals "enumerate" = some none) :
    ∃ (fd : FuncData) (c : Addr), PySem.W.codeHdIn K c Pt = true ∧ (∀ (s : Shared) (v : Value), BindsTo s fd ⟨[v], []⟩ [("_law_script", v)]) ∧ ∀ base : Heap, K.In base → base.Ns mainGlobals mg → base.BuiltinsAt mg Pt → FnOk l.prog w K mg base CX0 5 fa fd ["_law_script"] (spLawT K Pt) := by
  have ee := hfa.symm.trans (PySem.W.mg_of X G a21)
  cases ee
  have F1 := fun_mk (st := s_falling) l1 c1 k1
  have D1 : Df K mg "falling" f1 _ ["counts"] := ⟨PySem.W.mg_of X G a1, k1, F1.binds (ps := ["counts"]) fun _ _ _ _ _ _ us hl => match us, hl with | [_], _ => rfl⟩
  have F2 := fun_mk (st := s_put_in) l2 c2 k2
  have D2 : Df K mg "put_in" f2 _ ["counts", "place"] := ⟨PySem.W.mg_of X G a2, k2, F2.binds (ps := ["counts", "place"]) fun _ _ _ _ _ _ us hl => match us, hl with | [_, _], _ => rfl⟩
  have F3 := fun_mk (st := s_take_out) l3 c3 k3
  have D3 : Df K mg "take_out" f3 _ ["counts", "place"] := ⟨PySem.W.mg_of X G a3, k3, F3.binds (ps := ["counts", "place"]) fun _ _ _ _ _ _ us hl => match us, hl with | [_, _], _ => rfl⟩
  have F4 := fun_mk (st := s_steps_among) l4 c4 k4
  have D4 : Df K mg "steps_among" f4 _ ["counts"] := ⟨PySem.W.mg_of X G a4, k4, F4.binds (ps := ["counts"]) fun _ _ _ _ _ _ us hl => match us, hl with | [_], _ => rfl⟩
  have F5 := fun_mk (st := s_marks_that_go) l5 c5 k5
  have D5 : Df K mg "marks_that_go" f5 _ ["step"] := ⟨PySem.W.mg_of X G a5, k5, F5.binds (ps := ["step"]) fun _ _ _ _ _ _ us hl => match us, hl with | [_], _ => rfl⟩
  have F6 := fun_mk (st := s_marks_that_come) l6 c6 k6
  have D6 : Df K mg "marks_that_come" f6 _ ["step"] := ⟨PySem.W.mg_of X G a6, k6, F6.binds (ps := ["step"]) fun _ _ _ _ _ _ us hl => match us, hl with | [_], _ => rfl⟩
  have F7 := fun_mk (st := s__law_cell_at) l7 c7 k7
  have D7 : Df K mg "_law_cell_at" f7 _ ["_law_script", "_law_k"] := ⟨PySem.W.mg_of X G a7, k7, F7.binds (ps := ["_law_script", "_law_k"]) fun _ _ _ _ _ _ us hl => match us, hl with | [_, _], _ => rfl⟩
  have F8 := fun_mk (st := s__law_whole) l8 c8 k8
  have D8 : Df K mg "_law_whole" f8 _ ["_law_found"] := ⟨PySem.W.mg_of X G a8, k8, F8.binds (ps := ["_law_found"]) fun _ _ _ _ _ _ us hl => match us, hl with | [_], _ => rfl⟩
  have F9 := fun_mk (st := s__law_members) l9 c9 k9
  have D9 : Df K mg "_law_members" f9 _ ["_law_many"] := ⟨PySem.W.mg_of X G a9, k9, F9.binds (ps := ["_law_many"]) fun _ _ _ _ _ _ us hl => match us, hl with | [_], _ => rfl⟩
  have F10 := fun_mk (st := s__law_weight) l10 c10 k10
  have D10 : Df K mg "_law_weight" f10 _ ["_law_heap"] := ⟨PySem.W.mg_of X G a10, k10, F10.binds (ps := ["_law_heap"]) fun _ _ _ _ _ _ us hl => match us, hl with | [_], _ => rfl⟩
  have F11 := fun_mk (st := s__law_ways) l11 c11 k11
  have D11 : Df K mg "_law_ways" f11 _ ["_law_heap"] := ⟨PySem.W.mg_of X G a11, k11, F11.binds (ps := ["_law_heap"]) fun _ _ _ _ _ _ us hl => match us, hl with | [_], _ => rfl⟩
  have F12 := fun_mk (st := s__law_behind) l12 c12 k12
  have D12 : Df K mg "_law_behind" f12 _ ["_law_heap", "_law_step"] := ⟨PySem.W.mg_of X G a12, k12, F12.binds (ps := ["_law_heap", "_law_step"]) fun _ _ _ _ _ _ us hl => match us, hl with | [_, _], _ => rfl⟩
  have F13 := fun_mk (st := s_counted) l13 c13 k13
  have D13 : Df K mg "counted" f13 _ ["heap"] := ⟨PySem.W.mg_of X G a13, k13, F13.binds (ps := ["heap"]) fun _ _ _ _ _ _ us hl => match us, hl with | [_], _ => rfl⟩
  have F14 := fun_mk (st := s_do_step) l14 c14 k14
  have D14 : Df K mg "do_step" f14 _ ["counts", "step"] := ⟨PySem.W.mg_of X G a14, k14, F14.binds (ps := ["counts", "step"]) fun _ _ _ _ _ _ us hl => match us, hl with | [_, _], _ => rfl⟩
  have F15 := fun_mk (st := s__law_is_step) l15 c15 k15
  have D15 : Df K mg "_law_is_step" f15 _ ["_law_found"] := ⟨PySem.W.mg_of X G a15, k15, F15.binds (ps := ["_law_found"]) fun _ _ _ _ _ _ us hl => match us, hl with | [_], _ => rfl⟩
  have F16 := fun_mk (st := s__law_is_form) l16 c16 k16
  have D16 : Df K mg "_law_is_form" f16 _ ["_law_found"] := ⟨PySem.W.mg_of X G a16, k16, F16.binds (ps := ["_law_found"]) fun _ _ _ _ _ _ us hl => match us, hl with | [_], _ => rfl⟩
  have F17 := fun_mk (st := s_settled_by) l17 c17 k17
  have D17 : Df K mg "settled_by" f17 _ ["heap", "choose"] := ⟨PySem.W.mg_of X G a17, k17, F17.binds (ps := ["heap", "choose"]) fun _ _ _ _ _ _ us hl => match us, hl with | [_, _], _ => rfl⟩
  have F18 := fun_mk (st := s__law_walked) l18 c18 k18
  have D18 : Df K mg "_law_walked" f18 _ ["_law_heap", "_law_picks", "_law_told"] := ⟨PySem.W.mg_of X G a18, k18, F18.binds (ps := ["_law_heap", "_law_picks", "_law_told"]) fun _ _ _ _ _ _ us hl => match us, hl with | [_, _, _], _ => rfl⟩
  have F19 : FunD K "settled" "settled" s_settled f19 _ (.ref dt) cM := ⟨⟨_, _, _, _, _, _, _, _, rfl, l19, c19⟩⟩
  have D19 : Df K mg "settled" f19 (PySem.W.fnOf "settled" "settled" (defArgs s_settled) (defBody s_settled) (defScope s_settled) (.ref dt) kV19 dc19 pm19 an19 (.ref cM) ct19) ["heap", "picks"] := ⟨PySem.W.mg_of X G a19, k19, fun s us KX hl => match us, hl with | [_, _], _ => BindsTo.of_defaults rfl (KX _ _ ld) rfl rfl rfl⟩
  have D1_settled : Binds K (PySem.W.fnOf "settled" "settled" (defArgs s_settled) (defBody s_settled) (defScope s_settled) (.ref dt) kV19 dc19 pm19 an19 (.ref cM) ct19) ["heap", "picks"] [.none] := fun s us KX hl => by
    have hl' : us.length = 1 := by simpa using hl
    match us, hl' with
    | [_], _ => exact BindsTo.of_defaults rfl (KX _ _ ld) rfl rfl rfl
  have F20 := fun_mk (st := s__law_right) l20 c20 k20
  have D20 : Df K mg "_law_right" f20 _ ["_law_heap", "_law_picks", "_law_pair"] := ⟨PySem.W.mg_of X G a20, k20, F20.binds (ps := ["_law_heap", "_law_picks", "_law_pair"]) fun _ _ _ _ _ _ us hl => match us, hl with | [_, _, _], _ => rfl⟩
  have F21 := fun_mk (st := s_law) l21 c21 k21
  have B : Bi mg := ⟨PySem.W.mg_none_of X G z_isinstance, PySem.W.mg_none_of X G z_int, PySem.W.mg_none_of X G z_bool, PySem.W.mg_none_of X G z_len, PySem.W.mg_none_of X G z_range, PySem.W.mg_none_of X G z_all, PySem.W.mg_none_of X G z_sum, PySem.W.mg_none_of X G z_zip, PySem.W.mg_none_of X G z_list, PySem.W.mg_none_of X G z_reversed, PySem.W.mg_none_of X G z_max, PySem.W.mg_none_of X G z_str, PySem.W.mg_none_of X G z_tuple, PySem.W.mg_none_of X G z_min, PySem.W.mg_none_of X G z_sorted, PySem.W.mg_none_of X G z_set, PySem.W.mg_none_of X G z_dict, PySem.W.mg_none_of X G z_enumerate⟩
  refine ⟨PySem.W.fnOf "law" "law" (defArgs s_law) (defBody s_law) (defScope s_law) .none kV21 dc21 pm21 an21 cd21 ct21, cM, hcd, fun s v => .of_eq rfl, fun base kb nb hB => ?_⟩
  have hCd : PySem.W.CodeHd base cM Pt := PySem.W.codeHd_of_K kb hcd
  have g1 := fun base : Heap => ok_falling (P := l.prog) (w := w) (base := base) F1 B  
  have g2 := fun base : Heap => ok_put_in (P := l.prog) (w := w) (base := base) F2 B  
  have g3 := fun base : Heap => ok_take_out (P := l.prog) (w := w) (base := base) F3 B  
  have g4 := fun base : Heap => ok_steps_among (P := l.prog) (w := w) (base := base) F4 B  
  have g5 := fun base : Heap => ok_marks_that_go (P := l.prog) (w := w) (base := base) F5 B  
  have g6 := fun base : Heap => ok_marks_that_come (P := l.prog) (w := w) (base := base) F6 B  
  have g7 := fun base : Heap => ok__law_cell_at (P := l.prog) (w := w) (base := base) F7 B  
  have g8 := fun base : Heap => ok__law_whole (P := l.prog) (w := w) (base := base) F8 B  
  have g9 := fun base : Heap => ok__law_members (P := l.prog) (w := w) (base := base) F9 B  
  have g10 := fun base : Heap => ok__law_weight (P := l.prog) (w := w) (base := base) F10 B  
  have g11 := fun base : Heap => ok__law_ways (P := l.prog) (w := w) (base := base) F11 B  
  have g12 := fun base : Heap => ok__law_behind (P := l.prog) (w := w) (base := base) F12 B  
  have g13 := fun base : Heap => ok_counted (P := l.prog) (w := w) (base := base) F13 B  (g2 base) D2
  have g14 := fun base : Heap => ok_do_step (P := l.prog) (w := w) (base := base) F14 B  (g2 base) D2 (g3 base) D3 (g5 base) D5 (g6 base) D6
  have g15 := fun base : Heap => ok__law_is_step (P := l.prog) (w := w) (base := base) F15 B  (g8 base) D8
  have g16 := fun base : Heap => ok__law_is_form (P := l.prog) (w := w) (base := base) F16 B  (g8 base) D8
  have g17 := fun base : Heap => ok_settled_by (P := l.prog) (w := w) (base := base) F17 B  (g13 base) D13 (g1 base) D1 (g4 base) D4 (g14 base) D14
  have g18 := fun base : Heap => ok__law_walked (P := l.prog) (w := w) (base := base) F18 B  (g11 base) D11 (g12 base) D12 (g15 base) D15
  have g19 := ok_settled (P := l.prog) (w := w) (base := base) F19 B hCd hB  g17 D17
  have g20 := fun base : Heap => ok__law_right (P := l.prog) (w := w) (base := base) F20 B  (g10 base) D10 (g18 base) D18 (g16 base) D16
  exact ok_law (P := l.prog) (w := w) (base := base) F21 B D1_settled g19 D19 (g7 base) D7 (g9 base) D9 (g20 base) D20
theorem walk {l : PySem.W.OpenLaw} {q : Program} {loose : List Str} {XP : (Str → Option Value) → Heap → Prop} {YP : World → Heap → Prop} {d : DefRec} {K : Params → PySem.W.Frag} {Pt : Addr} (hn : l.most = some 63) (hdf : d.params.defaults = [])
    (hY : ∀ (w : World) (h : Heap), YP w h → (K w.params).In h) (hYP : ∀ (w : World) (h : Heap), YP w h → h.get? Pt = some (PySem.W.tabObj #[])) (hKP : ∀ p, (K p).lookup Pt = none)
    (F : ∀ (w : World) (mg : Str → Option Value) (fa : Addr) (h : Heap), (K w.params).In h → h.Ns mainGlobals mg → mg d.name = some (.ref fa) →
      ∃ (fd : FuncData) (c : Addr), PySem.W.codeHdIn (K w.params) c Pt = true ∧ (∀ (s : Shared) (u : Value), BindsTo s fd ⟨[u], []⟩ [("_law_script", u)]) ∧ ∀ base : Heap, (K w.params).In base → base.Ns mainGlobals mg → base.BuiltinsAt mg Pt → FnOk l.prog w (K w.params) mg base CX0 5 fa fd ["_law_script"] (spLawT (K w.params) Pt)) :
    PySem.W.WalkO q loose XP YP l.row.toRowW d [] (fun f vs => PySem.call f vs) :=
  L2.walk_ofT (n := 63) (k := 5) (x := "_law_script") (sp := fun w => spLawT (K w.params) Pt) hn (by decide) hdf ⟨rfl, by decide, by decide⟩ hY hYP hKP F fun _ _ a ns hl hS hT => ⟨a, ns, rfl, hS, hl, hT, fun _ => rfl⟩
end K07
open PySem PySem.W PyProof.Rows
set_option maxRecDepth 100000 in
set_option maxHeartbeats 0 in
theorem PySem.Challenge.cw_sparsesum_k07_whole_settled_in_any_order_holds : PySem.Challenge.rw_sparsesum_k07_whole_settled_in_any_order.Holds := by
  w_on; o_law; k_head; (case hw => w_witness2)
  k_fill
  refine K07.walk (l := PySem.Challenge.rw_sparsesum_k07_whole_settled_in_any_order) rfl rfl (fun w h Y => PySem.W.km_in_of Y) (fun w h Y => PySem.W.km_tabs_of Y _ List.mem_cons_self) (fun p => by kernel_rfl) ?F
  case F =>
    intro w mg fa h KX G hmg
    refine' K07.all_mk KX G hmg ?a1 ?l1 ?c1 ?k1 ?a2 ?l2 ?c2 ?k2 ?a3 ?l3 ?c3 ?k3 ?a4 ?l4 ?c4 ?k4 ?a5 ?l5 ?c5 ?k5 ?a6 ?l6 ?c6 ?k6 ?a7 ?l7 ?c7 ?k7 ?a8 ?l8 ?c8 ?k8 ?a9 ?l9 ?c9 ?k9 ?a10 ?l10 ?c10 ?k10 ?a11 ?l11 ?c11 ?k11 ?a12 ?l12 ?c12 ?k12 ?a13 ?l13 ?c13 ?k13 ?a14 ?l14 ?c14 ?k14 ?a15 ?l15 ?c15 ?k15 ?a16 ?l16 ?c16 ?k16 ?a17 ?l17 ?c17 ?k17 ?a18 ?l18 ?c18 ?k18 ?a19 ?l19 ?c19 ?k19 ?a20 ?l20 ?c20 ?k20 ?a21 ?l21 ?c21 ?k21 ?ld ?hcd ?z_isinstance ?z_int ?z_bool ?z_len ?z_range ?z_all ?z_sum ?z_zip ?z_list ?z_reversed ?z_max ?z_str ?z_tuple ?z_min ?z_sorted ?z_set ?z_dict ?z_enumerate
    (case a1 => k_is)
    (case l1 => k_is)
    (case c1 => k_is)
    (case k1 => k_is)
    (case a2 => k_is)
    (case l2 => k_is)
    (case c2 => k_is)
    (case k2 => k_is)
    (case a3 => k_is)
    (case l3 => k_is)
    (case c3 => k_is)
    (case k3 => k_is)
    (case a4 => k_is)
    (case l4 => k_is)
    (case c4 => k_is)
    (case k4 => k_is)
    (case a5 => k_is)
    (case l5 => k_is)
    (case c5 => k_is)
    (case k5 => k_is)
    (case a6 => k_is)
    (case l6 => k_is)
    (case c6 => k_is)
    (case k6 => k_is)
    (case a7 => k_is)
    (case l7 => k_is)
    (case c7 => k_is)
    (case k7 => k_is)
    (case a8 => k_is)
    (case l8 => k_is)
    (case c8 => k_is)
    (case k8 => k_is)
    (case a9 => k_is)
    (case l9 => k_is)
    (case c9 => k_is)
    (case k9 => k_is)
    (case a10 => k_is)
    (case l10 => k_is)
    (case c10 => k_is)
    (case k10 => k_is)
    (case a11 => k_is)
    (case l11 => k_is)
    (case c11 => k_is)
    (case k11 => k_is)
    (case a12 => k_is)
    (case l12 => k_is)
    (case c12 => k_is)
    (case k12 => k_is)
    (case a13 => k_is)
    (case l13 => k_is)
    (case c13 => k_is)
    (case k13 => k_is)
    (case a14 => k_is)
    (case l14 => k_is)
    (case c14 => k_is)
    (case k14 => k_is)
    (case a15 => k_is)
    (case l15 => k_is)
    (case c15 => k_is)
    (case k15 => k_is)
    (case a16 => k_is)
    (case l16 => k_is)
    (case c16 => k_is)
    (case k16 => k_is)
    (case a17 => k_is)
    (case l17 => k_is)
    (case c17 => k_is)
    (case k17 => k_is)
    (case a18 => k_is)
    (case l18 => k_is)
    (case c18 => k_is)
    (case k18 => k_is)
    (case a19 => k_is)
    (case l19 => k_is)
    (case c19 => k_is)
    (case k19 => k_is)
    (case a20 => k_is)
    (case l20 => k_is)
    (case c20 => k_is)
    (case k20 => k_is)
    (case a21 => k_is)
    (case l21 => k_is)
    (case c21 => k_is)
    (case k21 => k_is)
    (case ld => k_is)
    (case hcd => kernel_rfl)
    (case z_isinstance => k_is)
    (case z_int => k_is)
    (case z_bool => k_is)
    (case z_len => k_is)
    (case z_range => k_is)
    (case z_all => k_is)
    (case z_sum => k_is)
    (case z_zip => k_is)
    (case z_list => k_is)
    (case z_reversed => k_is)
    (case z_max => k_is)
    (case z_str => k_is)
    (case z_tuple => k_is)
    (case z_min => k_is)
    (case z_sorted => k_is)
    (case z_set => k_is)
    (case z_dict => k_is)
    (case z_enumerate => k_is)

