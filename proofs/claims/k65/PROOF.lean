import PyProof.Rows.All
import Wide.All
import OpenK.AllK
import Wide.FinOn
import HandS.Base
import HandS.Call
import HandS.List
import HandS.Comp
import HandS.Iter
import HandS.Words
import HandS.WordsList
import HandS.Conv
import HandS.TupAny
import HandS.TupLe
import HandS.IsInst
import HandS.Flow
import HandS.Deep
import HandS.ExcInit
import KE.KeyNested
import HandS.Wide
import HandS.SortInts
import HandS.Exc
import HandS.ExcOwn
import HandS.WordsExc
import HandS.Strs
import HandS.Text
import HandS.Defaults
import HandS.More
import KE.GoesMore
import KE.GoesEnum
import HandS.Zip
import KE.KStateDown
import HandS.Head0
import HandS.Head1
import HandS.Head2
import HandS.HeadEnd
import HandS.HeadHook1
import HandS.HeadHook2
import HandS.ExcField
import HandS.SortOrd
import PyProof.TupleOfSeq
import HandS.ExcValue
import HandS.ExcIs
import KE.KExcIs
import HandS.Ends
import HandS.TupSets
import HandS.SetBool
import KE.SortData
import HandS.SetFor
import KE.DataMinMax
import HandS.SortKw
import HandS.DictComp
import HandS.TupMul
import HandS.TryMany
import HandS.Style
import PySem.Challenge.RW_earliestlots_k65_whole_datings_sorted_ov
set_option Elab.async false
set_option linter.all false
set_option maxRecDepth 100000
set_option maxHeartbeats 4000000
set_option autoImplicit false
namespace Dl
open PySem PySem.Spec PyProof.Rows L2

inductive OKd where
  | cau (a dd : Addr) | exv (C : Addr) | exn (C : Addr) | ins (C : Addr) | scr | dct (ks : List Key) | dcn (ks : List NestedKey)
inductive D where
  | obj (k : OKd) (ns : List Str) (ds : List D) | non | bl (b : Bool) | int (i : Int) | str (x : Str) | tup (xs : List D) | lst (xs : List D) | ref (a : Addr) | ty (n : String)

def NRaw (h : Heap) (a : Addr) (L : List (NestedKey × Addr × V)) : Prop :=
  (a == sysModules) = false ∧ L.length ≤ sizeLine ∧ (L.map (·.1)).Nodup ∧ ∃ o es ep, h.get? a = some o ∧ o.ExactDict ∧ o.data = .dict es ep ∧
    Paired (fun (p : NestedKey × Addr × V) (e : DictEntry) => (∀ w, e.hash = p.1.hash w) ∧ e.key = .ref p.2.1 ∧ RelV p.2.2 e.val) L es.toList
def NDO (a : Addr) (L : List (NestedKey × Addr × V)) : HO := .ext fun h => NRaw h a L
def KT (K : PySem.W.Frag) (a : Addr) (xs : List V) : Prop := ∃ (o : Obj) (its : Array Value) (n : Nat), K.lookup a = some o ∧ o.cls = .type "tuple" ∧ o.data = .seq its n ∧ its.size ≤ sizeLine ∧ Vals xs its.toList
def TupA (K : PySem.W.Frag) (Av : Addr → Prop) (H : Hp) (a : Addr) (xs : List V) : Prop := (¬ Av a ∧ H a = some (.tup xs)) ∨ KT K a xs
theorem TupA.sq {K : PySem.W.Frag} {Av : Addr → Prop} {H : Hp} {a : Addr} {xs : List V} (h : TupA K Av H a xs) : SqT K H a xs := h.imp (fun x => .inl x.2) id
def ObjA (K : PySem.W.Frag) (Av : Addr → Prop) (H : Hp) (k : OKd) (v : V) (ns : List Str) (ws : List V) : Prop := match k with
  | .cau a dd => v = .ref a ∧ ¬ Av dd ∧ H dd = some (.xd (ns.zip ws))
  | .exv C => ∃ a dd, v = .ref a ∧ (¬ Av a ∧ H a = some (exo a C (some dd))) ∧ ¬ Av dd ∧ H dd = some (exd dd (ns.zip ws))
  | .exn C => ∃ a, v = .ref a ∧ (¬ Av a ∧ H a = some (exo a C none))
  | .ins C => ∃ a dx, v = .ref a ∧ (¬ Av a ∧ H a = some (.ins C dx (ns.zip ws))) ∧ ¬ Av dx ∧ H dx = some (.own a)
  | .dct ks => ∃ a, v = .ref a ∧ ¬ Av a ∧ H a = some (.dK (ks.zip ws))
  | .dcn ks => ∃ (a : Addr) (T : List (Addr × V)), v = .ref a ∧ ws = T.map (fun t => V.ref t.1) ++ T.map (fun t => t.2) ∧ T.length = ks.length ∧ ¬ Av a ∧ H a = some (NDO a (ks.zip T))
  | .scr => ∃ a, v = .ref a ∧ ((¬ Av a ∧ ∃ o, H a = some (.frz o (.lst ws))) ∨ ∀ G, SqL K G a ws)
mutual
def Den (K : PySem.W.Frag) (Av : Addr → Prop) (H : Hp) : V → D → Prop
  | v, .obj k ns ds => ∃ ws, ws.length = ns.length ∧ ObjA K Av H k v ns ws ∧ DenA K Av H ws ds
  | v, .non => v = .non
  | v, .bl b => v = .bl b
  | v, .int i => v = .int i
  | v, .str x => v = .str x
  | v, .ref a => v = .ref a
  | v, .ty n => v = .ty n
  | v, .tup ds => ∃ a vs, v = .ref a ∧ SqT K H a vs ∧ TupA K Av H a vs ∧ DenA K Av H vs ds
  | v, .lst ds => ∃ a vs, v = .ref a ∧ H a = some (.lst vs) ∧ ¬ Av a ∧ DenA K Av H vs ds
def DenA (K : PySem.W.Frag) (Av : Addr → Prop) (H : Hp) : List V → List D → Prop
  | vs, [] => vs = []
  | vs, d :: ds => ∃ v r, vs = v :: r ∧ Den K Av H v d ∧ DenA K Av H r ds
end

def Kp (Av : Addr → Prop) (H H' : Hp) : Prop := ∀ a o, ¬ Av a → H a = some o → H' a = some o
theorem Kp.refl {Av : Addr → Prop} {H : Hp} : Kp Av H H := fun _ _ _ h => h
theorem Kp.trans {Av : Addr → Prop} {H H1 H2 : Hp} (a : Kp Av H H1) (b : Kp Av H1 H2) : Kp Av H H2 := fun x o n h => b x o n (a x o n h)
theorem Kp.weak {Av Bv : Addr → Prop} {H H1 : Hp} (a : Kp Av H H1) (s : ∀ x, Av x → Bv x) : Kp Bv H H1 := fun x o n h => a x o (fun z => n (s x z)) h
theorem Kp.new {Av : Addr → Prop} {H : Hp} {p : Addr} {o : HO} (h : H p = none) : Kp Av H (upd H p o) := fun a u _ e => by
  rw [upd_ne (ne_of_none e h)]; exact e
theorem Kp.mut {Av : Addr → Prop} {H : Hp} {p : Addr} {o : HO} (h : Av p) : Kp Av H (upd H p o) := fun a u n e => by
  rw [upd_ne (fun z => n (by rw [z]; exact h))]; exact e

section
variable {K : PySem.W.Frag} {Av Bv : Addr → Prop} {H H' : Hp}
theorem TupA.keep {a : Addr} {xs : List V} (k : Kp Av H H') (h : TupA K Av H a xs) : TupA K Av H' a xs := h.imp (fun x => ⟨x.1, k _ _ x.1 x.2⟩) id
theorem TupA.weak {a : Addr} {xs : List V} (s : ∀ a, Bv a → Av a) (h : TupA K Av H a xs) : TupA K Bv H a xs := h.imp (fun x => ⟨fun z => x.1 (s _ z), x.2⟩) id
theorem ObjA.keep {q : OKd} {v : V} {ns : List Str} {ws : List V} (k : Kp Av H H') (h : ObjA K Av H q v ns ws) : ObjA K Av H' q v ns ws := by
  cases q with
  | cau a dd => exact ⟨h.1, h.2.1, k _ _ h.2.1 h.2.2⟩
  | exv C => obtain ⟨a, dd, e, h1, h2, h3⟩ := h; exact ⟨a, dd, e, ⟨h1.1, k _ _ h1.1 h1.2⟩, h2, k _ _ h2 h3⟩
  | exn C => obtain ⟨a, e, h1⟩ := h; exact ⟨a, e, ⟨h1.1, k _ _ h1.1 h1.2⟩⟩
  | ins C => obtain ⟨a, dd, e, h1, h2, h3⟩ := h; exact ⟨a, dd, e, ⟨h1.1, k _ _ h1.1 h1.2⟩, h2, k _ _ h2 h3⟩
  | scr => obtain ⟨a, e, h⟩ := h; exact ⟨a, e, h.imp (fun ⟨n, o, h⟩ => ⟨n, o, k _ _ n h⟩) id⟩
  | dct ks => obtain ⟨a, e, n, h⟩ := h; exact ⟨a, e, n, k _ _ n h⟩
  | dcn ks => obtain ⟨a, T, e, e2, l, n, h⟩ := h; exact ⟨a, T, e, e2, l, n, k _ _ n h⟩
theorem ObjA.weak {q : OKd} {v : V} {ns : List Str} {ws : List V} (s : ∀ a, Bv a → Av a) (h : ObjA K Av H q v ns ws) : ObjA K Bv H q v ns ws := by
  cases q with
  | cau a dd => exact ⟨h.1, fun z => h.2.1 (s _ z), h.2.2⟩
  | exv C => obtain ⟨a, dd, e, h1, h2, h3⟩ := h; exact ⟨a, dd, e, ⟨fun z => h1.1 (s _ z), h1.2⟩, fun z => h2 (s _ z), h3⟩
  | exn C => obtain ⟨a, e, h1⟩ := h; exact ⟨a, e, ⟨fun z => h1.1 (s _ z), h1.2⟩⟩
  | ins C => obtain ⟨a, dd, e, h1, h2, h3⟩ := h; exact ⟨a, dd, e, ⟨fun z => h1.1 (s _ z), h1.2⟩, fun z => h2 (s _ z), h3⟩
  | scr => obtain ⟨a, e, h⟩ := h; exact ⟨a, e, h.imp (fun ⟨n, o, h⟩ => ⟨fun z => n (s _ z), o, h⟩) id⟩
  | dct ks => obtain ⟨a, e, n, h⟩ := h; exact ⟨a, e, fun z => n (s _ z), h⟩
  | dcn ks => obtain ⟨a, T, e, e2, l, n, h⟩ := h; exact ⟨a, T, e, e2, l, fun z => n (s _ z), h⟩
theorem ObjA.more {q : OKd} {v : V} {ns : List Str} {ws : List V} (s : ∀ a, Bv a → Av a ∨ H a = none ∨ ∃ xs, H a = some (.lst xs)) (h : ObjA K Av H q v ns ws) : ObjA K Bv H q v ns ws := by
  have n1 : ∀ {a : Addr} {o : HO}, ¬ Av a → H a = some o → (∀ xs, o ≠ .lst xs) → ¬ Bv a := fun {a o} n e d z => by
    rcases s _ z with z | z | ⟨xs, z⟩
    · exact n z
    · rw [e] at z; cases z
    · rw [e] at z; exact d xs (Option.some.inj z)
  cases q with
  | cau a dd => exact ⟨h.1, n1 h.2.1 h.2.2 (fun _ z => by cases z), h.2.2⟩
  | exv C => obtain ⟨a, dd, e, h1, h2, h3⟩ := h; exact ⟨a, dd, e, ⟨n1 h1.1 h1.2 (fun _ z => by unfold exo at z; cases z), h1.2⟩, n1 h2 h3 (fun _ z => by unfold exd at z; cases z), h3⟩
  | exn C => obtain ⟨a, e, h1⟩ := h; exact ⟨a, e, ⟨n1 h1.1 h1.2 (fun _ z => by unfold exo at z; cases z), h1.2⟩⟩
  | ins C => obtain ⟨a, dd, e, h1, h2, h3⟩ := h; exact ⟨a, dd, e, ⟨n1 h1.1 h1.2 (fun _ z => by cases z), h1.2⟩, n1 h2 h3 (fun _ z => by cases z), h3⟩
  | scr => obtain ⟨a, e, h⟩ := h; exact ⟨a, e, h.imp (fun ⟨n, o, h⟩ => ⟨n1 n h (fun _ z => by cases z), o, h⟩) id⟩
  | dct ks => obtain ⟨a, e, n, h⟩ := h; exact ⟨a, e, n1 n h (fun _ z => by cases z), h⟩
  | dcn ks => obtain ⟨a, T, e, e2, l, n, h⟩ := h; exact ⟨a, T, e, e2, l, n1 n h (fun _ z => by unfold NDO at z; cases z), h⟩
mutual
theorem Den.keep (k : Kp Av H H') : ∀ (d : D) (v : V), Den K Av H v d → Den K Av H' v d
  | .obj q ns ds, v, h => by
    simp only [Den] at h ⊢
    obtain ⟨ws, l, o, r⟩ := h
    exact ⟨ws, l, ObjA.keep k o, DenA.keep k ds ws r⟩
  | .non, _, h => by simpa only [Den] using h
  | .bl _, _, h => by simpa only [Den] using h
  | .int _, _, h => by simpa only [Den] using h
  | .str _, _, h => by simpa only [Den] using h
  | .ref _, _, h => by simpa only [Den] using h
  | .ty _, _, h => by simpa only [Den] using h
  | .tup ds, v, h => by
    simp only [Den] at h ⊢
    obtain ⟨a, vs, e, s, n, r⟩ := h
    exact ⟨a, vs, e, (TupA.keep k n).sq, TupA.keep k n, DenA.keep k ds vs r⟩
  | .lst ds, v, h => by
    simp only [Den] at h ⊢
    obtain ⟨a, vs, e, s, n, r⟩ := h
    exact ⟨a, vs, e, k _ _ n s, n, DenA.keep k ds vs r⟩
theorem DenA.keep (k : Kp Av H H') : ∀ (ds : List D) (vs : List V), DenA K Av H vs ds → DenA K Av H' vs ds
  | [], _, h => by simpa only [DenA] using h
  | d :: ds, vs, h => by
    simp only [DenA] at h ⊢
    obtain ⟨v, r, e, h1, h2⟩ := h
    exact ⟨v, r, e, Den.keep k d v h1, DenA.keep k ds r h2⟩
end
mutual
theorem Den.weak (s : ∀ a, Bv a → Av a) : ∀ (d : D) (v : V), Den K Av H v d → Den K Bv H v d
  | .obj q ns ds, v, h => by
    simp only [Den] at h ⊢
    obtain ⟨ws, l, o, r⟩ := h
    exact ⟨ws, l, ObjA.weak s o, DenA.weak s ds ws r⟩
  | .non, _, h => by simpa only [Den] using h
  | .bl _, _, h => by simpa only [Den] using h
  | .int _, _, h => by simpa only [Den] using h
  | .str _, _, h => by simpa only [Den] using h
  | .ref _, _, h => by simpa only [Den] using h
  | .ty _, _, h => by simpa only [Den] using h
  | .tup ds, v, h => by
    simp only [Den] at h ⊢
    obtain ⟨a, vs, e, q, n, r⟩ := h
    exact ⟨a, vs, e, q, TupA.weak s n, DenA.weak s ds vs r⟩
  | .lst ds, v, h => by
    simp only [Den] at h ⊢
    obtain ⟨a, vs, e, q, n, r⟩ := h
    exact ⟨a, vs, e, q, fun z => n (s a z), DenA.weak s ds vs r⟩
theorem DenA.weak (s : ∀ a, Bv a → Av a) : ∀ (ds : List D) (vs : List V), DenA K Av H vs ds → DenA K Bv H vs ds
  | [], _, h => by simpa only [DenA] using h
  | d :: ds, vs, h => by
    simp only [DenA] at h ⊢
    obtain ⟨v, r, e, h1, h2⟩ := h
    exact ⟨v, r, e, Den.weak s d v h1, DenA.weak s ds r h2⟩
end
mutual
/-- what is new is not in it -/
theorem Den.fresh {p : Addr} (hp : H p = none) : ∀ (d : D) (v : V), Den K Av H v d → Den K (fun a => Av a ∨ a = p) H v d
  | .obj q ns ds, v, h => by
    simp only [Den] at h ⊢
    obtain ⟨ws, l, o, r⟩ := h
    exact ⟨ws, l, ObjA.more (fun a z => z.imp id fun e => .inl (by rw [e]; exact hp)) o, DenA.fresh hp ds ws r⟩
  | .non, _, h => by simpa only [Den] using h
  | .bl _, _, h => by simpa only [Den] using h
  | .int _, _, h => by simpa only [Den] using h
  | .str _, _, h => by simpa only [Den] using h
  | .ref _, _, h => by simpa only [Den] using h
  | .ty _, _, h => by simpa only [Den] using h
  | .tup ds, v, h => by
    simp only [Den] at h ⊢
    obtain ⟨a, vs, e, q, n, r⟩ := h
    refine ⟨a, vs, e, q, n.imp (fun x => ⟨fun z => z.elim x.1 fun e => ?_, x.2⟩) id, DenA.fresh hp ds vs r⟩
    subst e
    have x := x.2
    rw [hp] at x; cases x
  | .lst ds, v, h => by
    simp only [Den] at h ⊢
    obtain ⟨a, vs, e, q, n, r⟩ := h
    refine ⟨a, vs, e, q, fun z => z.elim n fun e => ?_, DenA.fresh hp ds vs r⟩
    subst e
    rw [hp] at q; cases q
theorem DenA.fresh {p : Addr} (hp : H p = none) : ∀ (ds : List D) (vs : List V), DenA K Av H vs ds → DenA K (fun a => Av a ∨ a = p) H vs ds
  | [], _, h => by simpa only [DenA] using h
  | d :: ds, vs, h => by
    simp only [DenA] at h ⊢
    obtain ⟨v, r, e, h1, h2⟩ := h
    exact ⟨v, r, e, Den.fresh hp d v h1, DenA.fresh hp ds r h2⟩
end
mutual
def D.noLst : D → Bool
  | .obj _ _ xs => noLstA xs | .lst _ => false | .tup xs => noLstA xs | .non => true | .bl _ => true | .int _ => true | .str _ => true | .ref _ => true | .ty _ => true
def noLstA : List D → Bool
  | [] => true
  | x :: xs => D.noLst x && noLstA xs
end
mutual
/-- data without lists stands apart from every list -/
theorem Den.apart {P : Addr → Prop} (hp : ∀ a, P a → ∃ xs, H a = some (.lst xs)) : ∀ (d : D) (v : V), d.noLst = true → Den K Av H v d → Den K (fun a => Av a ∨ P a) H v d
  | .obj q ns ds, v, g, h => by
    simp only [Den] at h ⊢
    obtain ⟨ws, l, o, r⟩ := h
    exact ⟨ws, l, ObjA.more (fun a z => z.imp id fun e => .inr (hp a e)) o, DenA.apart hp ds ws (by simpa only [D.noLst] using g) r⟩
  | .non, _, _, h => by simpa only [Den] using h
  | .bl _, _, _, h => by simpa only [Den] using h
  | .int _, _, _, h => by simpa only [Den] using h
  | .str _, _, _, h => by simpa only [Den] using h
  | .ref _, _, _, h => by simpa only [Den] using h
  | .ty _, _, _, h => by simpa only [Den] using h
  | .tup ds, v, g, h => by
    simp only [Den] at h ⊢
    obtain ⟨a, vs, e, q, n, r⟩ := h
    refine ⟨a, vs, e, q, n.imp (fun x => ⟨fun z => z.elim x.1 fun e => ?_, x.2⟩) id, DenA.apart hp ds vs (by simpa only [D.noLst] using g) r⟩
    obtain ⟨xs, e⟩ := hp a e
    have x := x.2
    rw [e] at x; cases x
  | .lst ds, v, g, h => by simp [D.noLst] at g
theorem DenA.apart {P : Addr → Prop} (hp : ∀ a, P a → ∃ xs, H a = some (.lst xs)) : ∀ (ds : List D) (vs : List V), noLstA ds = true → DenA K Av H vs ds → DenA K (fun a => Av a ∨ P a) H vs ds
  | [], _, _, h => by simpa only [DenA] using h
  | d :: ds, vs, g, h => by
    simp only [noLstA, Bool.and_eq_true] at g
    simp only [DenA] at h ⊢
    obtain ⟨v, r, e, h1, h2⟩ := h
    exact ⟨v, r, e, Den.apart hp d v g.1 h1, DenA.apart hp ds r g.2 h2⟩
end
theorem DenA.len : ∀ {ds : List D} {vs : List V}, DenA K Av H vs ds → vs.length = ds.length
  | [], _, h => by simp only [DenA] at h; rw [h]; rfl
  | d :: ds, vs, h => by
    simp only [DenA] at h
    obtain ⟨v, r, e, h1, h2⟩ := h
    rw [e]; exact congrArg Nat.succ (DenA.len h2)
theorem DenA.get : ∀ {ds : List D} {vs : List V} {i : Nat} {d : D}, DenA K Av H vs ds → ds[i]? = some d → ∃ v, vs[i]? = some v ∧ Den K Av H v d
  | [], _, _, _, h, e => by simp at e
  | d :: ds, vs, 0, d', h, e => by
    simp only [DenA] at h
    obtain ⟨v, r, rfl, h1, h2⟩ := h
    simp at e; subst e
    exact ⟨v, rfl, h1⟩
  | d :: ds, vs, i + 1, d', h, e => by
    simp only [DenA] at h
    obtain ⟨v, r, rfl, h1, h2⟩ := h
    simpa using DenA.get (i := i) h2 (by simpa using e)
theorem DenA.app : ∀ {ds es : List D} {vs ws : List V}, DenA K Av H vs ds → DenA K Av H ws es → DenA K Av H (vs ++ ws) (ds ++ es)
  | [], _, _, _, h, g => by simp only [DenA] at h; rw [h]; exact g
  | d :: ds, es, vs, ws, h, g => by
    simp only [DenA] at h
    obtain ⟨v, r, rfl, h1, h2⟩ := h
    show DenA K Av H (v :: (r ++ ws)) (d :: (ds ++ es))
    simp only [DenA]
    exact ⟨v, _, rfl, h1, DenA.app h2 g⟩
theorem DenA.one {v : V} {d : D} (h : Den K Av H v d) : DenA K Av H [v] [d] := by
  simp only [DenA]; exact ⟨v, [], rfl, h, rfl⟩
theorem DenA.drop : ∀ {ds : List D} {vs : List V} (n : Nat), DenA K Av H vs ds → DenA K Av H (vs.drop n) (ds.drop n)
  | _, _, 0, h => h
  | [], _, n + 1, h => by simp only [DenA] at h; rw [h]; simp [DenA]
  | d :: ds, vs, n + 1, h => by
    simp only [DenA] at h
    obtain ⟨v, r, rfl, h1, h2⟩ := h
    exact DenA.drop n h2
theorem DenA.take : ∀ {ds : List D} {vs : List V} (n : Nat), DenA K Av H vs ds → DenA K Av H (vs.take n) (ds.take n)
  | ds, vs, 0, h => by simp [DenA]
  | [], _, n + 1, h => by simp only [DenA] at h; rw [h]; simp [DenA]
  | d :: ds, vs, n + 1, h => by
    simp only [DenA] at h
    obtain ⟨v, r, rfl, h1, h2⟩ := h
    show DenA K Av H (v :: r.take n) (d :: ds.take n)
    simp only [DenA]
    exact ⟨v, _, rfl, h1, DenA.take n h2⟩
theorem DenA.ints : ∀ {ns : List Int}, DenA K Av H (ns.map V.int) (ns.map D.int)
  | [] => by simp [DenA]
  | n :: ns => by
    show DenA K Av H (V.int n :: ns.map V.int) (D.int n :: ns.map D.int)
    simp only [DenA]
    exact ⟨_, _, rfl, by simp only [Den], DenA.ints⟩
theorem DenA.ofInts : ∀ {ns : List Int} {vs : List V}, DenA K Av H vs (ns.map D.int) → vs = ns.map V.int
  | [], _, h => by simpa [DenA] using h
  | n :: ns, vs, h => by
    have h' : DenA K Av H vs (D.int n :: ns.map D.int) := h
    simp only [DenA, Den] at h'
    obtain ⟨v, r, rfl, rfl, h2⟩ := h'
    rw [DenA.ofInts h2]; rfl
end

structure HI where
  own : Addr → Prop
  foot : Addr → Prop
  ok : Hp → Prop
  sub : ∀ a, own a → foot a
  dom : ∀ H a, ok H → foot a → H a ≠ none
  loc : ∀ H H', (∀ a, foot a → H' a = H a) → ok H → ok H'
def HI.plain : HI := ⟨fun _ => False, fun _ => False, fun _ => True, fun _ h => h, fun _ _ _ h => h.elim, fun _ _ _ _ => trivial⟩

def Ext (I : HI) (H H' : Hp) : Prop := Kp I.own H H' ∧ I.ok H'
section
variable {I : HI} {H H1 H2 : Hp}
theorem Ext.refl (h : I.ok H) : Ext I H H := ⟨Kp.refl, h⟩
theorem Ext.trans (a : Ext I H H1) (b : Ext I H1 H2) : Ext I H H2 := ⟨a.1.trans b.1, b.2⟩
theorem Ext.new {p : Addr} {o : HO} (h : I.ok H) (n : H p = none) : Ext I H (upd H p o) :=
  ⟨Kp.new n, I.loc H _ (fun a f => upd_ne (fun z => I.dom H a h f (by rw [z]; exact n))) h⟩
theorem HI.nown {p : Addr} (h : I.ok H) (n : H p = none) : ¬ I.own p := fun z => I.dom H p h (I.sub p z) n
end

inductive Slot where
  | no | val (d : D) | own (xs : List D)
abbrev DEnv := List Slot
def AvOf (I : HI) (env : DEnv) (oa : Nat → Addr) : Addr → Prop := fun a => I.own a ∨ ∃ (i : Nat) (xs : List D), env[i]? = some (Slot.own xs) ∧ a = oa i
structure B0 where
  H0 : Hp
  hs : List (V × D)
structure DenE (K : PySem.W.Frag) (I : HI) (b : B0) (σ : L2.St) (H : Hp) (env : DEnv) : Prop where
  len : σ.length = env.length
  ext : Ext I b.H0 H
  slots : ∃ oa : Nat → Addr,
    (∀ (i : Nat) (xs : List D), env[i]? = some (Slot.own xs) → (∃ vs, σ[i]? = some (some (.ref (oa i))) ∧ H (oa i) = some (.lst vs) ∧ DenA K (AvOf I env oa) H vs xs) ∧ b.H0 (oa i) = none ∧ ¬ I.foot (oa i)) ∧
    (∀ (i j : Nat) (xs ys : List D), env[i]? = some (Slot.own xs) → env[j]? = some (Slot.own ys) → oa i = oa j → i = j) ∧
    (∀ (i : Nat) (d : D), env[i]? = some (Slot.val d) → ∃ v : V, σ[i]? = some (some v) ∧ Den K (AvOf I env oa) H v d) ∧
    ∀ p ∈ b.hs, Den K (AvOf I env oa) H p.1 p.2
section
variable {K : PySem.W.Frag} {I : HI} {b : B0} {H H' : Hp} {σ : L2.St} {env : DEnv}
theorem DenE.ok (h : DenE K I b σ H env) : I.ok H := h.ext.2
theorem DenE.mono (h : DenE K I b σ H env) (e : Ext I H H') : DenE K I b σ H' env := by
  obtain ⟨oa, h1, h2, h3, h4⟩ := h.slots
  refine ⟨h.len, h.ext.trans e, oa, fun i xs q => ?_, h2, fun i d q => ?_, fun p hp => Den.keep (e.1.weak (fun x z => .inl z)) _ _ (h4 p hp)⟩
  · obtain ⟨⟨vs, e1, e2, e3⟩, e4, e5⟩ := h1 i xs q
    refine ⟨⟨vs, e1, e.1 _ _ (fun z => e5 (I.sub _ z)) e2, DenA.keep (e.1.weak (fun x z => .inl z)) xs vs e3⟩, e4, e5⟩
  · obtain ⟨v, e1, e2⟩ := h3 i d q
    exact ⟨v, e1, Den.keep (e.1.weak (fun x z => .inl z)) d v e2⟩
def rdSlot : Slot → Option D
  | .no => none
  | .val d => some d
  | .own xs => some (.lst xs)
theorem DenE.read (h : DenE K I b σ H env) {i : Nat} {s : Slot} {d : D} (hs : env[i]? = some s) (hd : rdSlot s = some d) : ∃ v, σ[i]? = some (some v) ∧ Den K I.own H v d := by
  obtain ⟨oa, h1, h2, h3, _⟩ := h.slots
  cases s with
  | no => cases hd
  | val d' =>
    have e : d' = d := Option.some.inj hd
    subst e
    obtain ⟨v, e1, e2⟩ := h3 i d' hs
    exact ⟨v, e1, Den.weak (fun a z => .inl z) _ _ e2⟩
  | own xs =>
    have e : D.lst xs = d := Option.some.inj hd
    subst e
    obtain ⟨⟨vs, e1, e2, e3⟩, e4, e5⟩ := h1 i xs hs
    refine ⟨_, e1, ?_⟩
    simp only [Den]
    exact ⟨_, vs, rfl, e2, fun z => e5 (I.sub _ z), DenA.weak (fun a z => .inl z) _ _ e3⟩
end
end Dl

namespace Dl
open PySem PySem.Spec PyProof.Rows L2

abbrev TED := DEnv → (D → Prop) → Prop
abbrev TTD := DEnv → (Bool → Prop) → Prop
abbrev TAD := DEnv → (List D → Prop) → Prop

def wE (X : Cx) (e : Expr) : TE := fun σ H Q => ∀ pins s, Inv X pins σ H s → wpAny (model X.prog X.w) X.A (eval e X.env) (EP X pins σ Q) X.xe s
def wT (X : Cx) (e : Expr) : TT := fun σ H Q => ∀ pins s, Inv X pins σ H s → wpAny (model X.prog X.w) X.A (isTrue e X.env (eval e X.env)) (TP X pins σ Q) X.xe s
def wW (X : Cx) (e : Expr) : TT := fun σ H Q => ∀ whole pins s, Inv X pins σ H s → wpAny (model X.prog X.w) X.A (isTrue e X.env whole) (TP X pins σ Q) X.xe s
def wA (X : Cx) (es : List Expr) : TA := fun σ H Q => ∀ pos pins s, Inv X pins σ H s → wpAny (model X.prog X.w) X.A (spliced (backTo pos (starEach es X.env))) (AP X pins σ Q) X.xe s
def rw2 (X : Cx) (f : Value → Value → Sem Value) : R2 := fun x y H Q => ∀ pins s σ v u, Inv X pins σ H s → RelV x v → RelV y u → wpAny (model X.prog X.w) X.A (f v u) (EP X pins σ Q) X.xe s
section
variable {X : Cx} {e : Expr} {es : List Expr} {f : Value → Value → Sem Value}
theorem pe_w : PE X e (wE X e) := ⟨fun pins s σ H Q I h => h pins s I⟩
theorem pt_w : PT X e (wT X e) := ⟨fun pins s σ H Q I h => h pins s I⟩
theorem pw_w : PW X e (wW X e) := ⟨fun whole pins s σ H Q I h => h whole pins s I⟩
theorem pa_w : PA X es (wA X es) := ⟨fun pos pins s σ H Q I h => h pos pins s I⟩
theorem or_w : OpR X f (rw2 X f) := fun pins s σ H x y v u Q I rx ry h => h pins s σ v u I rx ry
theorem rw2_of {r : R2} (h : OpR X f r) {x y : V} {H : Hp} {Q : VK} (q : r x y H Q) : rw2 X f x y H Q := fun pins s σ v u I rx ry => h pins s σ H x y v u Q I rx ry q
end

structure Exc where
  cls : Addr
  fs : Option (List (Str × D))
def ExD (K : PySem.W.Frag) (I : HI) (H : Hp) (x : Exc) (d : Option Addr) : Prop := match x.fs with
  | none => d = none
  | some fs => ∃ dd ws, d = some dd ∧ H dd = some (.xd ((fs.map (·.1)).zip ws)) ∧ DenA K I.own H ws (fs.map (·.2))
structure Gx where
  I : HI
  Ed : DEnv → Exc → Prop
  W : WX
abbrev Gx.nox (g : Gx) : Gx := ⟨g.I, fun _ _ => False, fun _ _ _ _ => False⟩
def XL (K : PySem.W.Frag) (g : Gx) (b : B0) : Prop := ∀ (σ : L2.St) (H : Hp) (env : DEnv) (x : Exc) (d : Option Addr) (H' : Hp), DenE K g.I b σ H env → Ext g.I H H' → ExD K g.I H' x d → g.Ed env x → g.W (.ref x.cls) d σ H'
theorem XL.nox {K : PySem.W.Frag} {g : Gx} {b : B0} : XL K g.nox b := fun _ _ _ _ _ _ _ _ _ h => h.elim

def SE (K : PySem.W.Frag) (g : Gx) (te : TE) (td : TED) : Prop :=
  ∀ (b : B0) (σ : L2.St) (H : Hp) (env : DEnv) (Qd : D → Prop) (Q : VK), DenE K g.I b σ H env → XL K g b → td env Qd → (∀ v d H', Ext g.I H H' → Den K g.I.own H' v d → Qd d → Q v H') → te σ H Q
def ST (K : PySem.W.Frag) (g : Gx) (tt : TT) (td : TTD) : Prop :=
  ∀ (b : B0) (σ : L2.St) (H : Hp) (env : DEnv) (Qd : Bool → Prop) (Q : Bool → Hp → Prop), DenE K g.I b σ H env → XL K g b → td env Qd → (∀ b H', Ext g.I H H' → Qd b → Q b H') → tt σ H Q
def SA (K : PySem.W.Frag) (g : Gx) (ta : TA) (td : TAD) : Prop :=
  ∀ (b : B0) (σ : L2.St) (H : Hp) (env : DEnv) (Qd : List D → Prop) (Q : List V → Hp → Prop), DenE K g.I b σ H env → XL K g b → td env Qd → (∀ vs ds H', Ext g.I H H' → DenA K g.I.own H' vs ds → Qd ds → Q vs H') → ta σ H Q

def PED (X : Cx) (g : Gx) (e : Expr) (td : TED) : Prop := SE X.K g (wE X e) td
def PTD (X : Cx) (g : Gx) (e : Expr) (td : TTD) : Prop := ST X.K g (wT X e) td
def PWD (X : Cx) (g : Gx) (e : Expr) (td : TTD) : Prop := ST X.K g (wW X e) td
def PAD (X : Cx) (g : Gx) (es : List Expr) (td : TAD) : Prop := SA X.K g (wA X es) td
abbrev F2 := D → D → (D → Prop) → Prop
def RD (X : Cx) (I : HI) (f : Value → Value → Sem Value) (h : F2) : Prop :=
  ∀ (H : Hp) (x y : V) (dx dy : D) (Qd : D → Prop) (Q : VK), I.ok H → Den X.K I.own H x dx → Den X.K I.own H y dy → h dx dy Qd → (∀ v d H', Ext I H H' → Den X.K I.own H' v d → Qd d → Q v H') → rw2 X f x y H Q

section
variable {X : Cx} {I : HI} {g : Gx} {e a b c : Expr} {es : List Expr} {te : TE} {tt : TT} {td ta tb tc : TED} {t u : TTD} {pos : Pos} {f : Value → Value → Sem Value} {o : F2}
theorem ped_of (p : PE X e te) (h : SE X.K g te td) : PED X g e td := fun b0 σ H env Qd Q hd xl ht k pins s J => p.run pins s σ H Q J (h b0 σ H env Qd Q hd xl ht k)
theorem ptd_of {td : TTD} (p : PT X e tt) (h : ST X.K g tt td) : PTD X g e td := fun b0 σ H env Qd Q hd xl ht k pins s J => p.run pins s σ H Q J (h b0 σ H env Qd Q hd xl ht k)
theorem pwd_of {td : TTD} (p : PW X e tt) (h : ST X.K g tt td) : PWD X g e td := fun b0 σ H env Qd Q hd xl ht k whole pins s J => p.run whole pins s σ H Q J (h b0 σ H env Qd Q hd xl ht k)
theorem pad_of {ta : TA} {td : TAD} (p : PA X es ta) (h : SA X.K g ta td) : PAD X g es td := fun b0 σ H env Qd Q hd xl ht k pos pins s J => p.run pos pins s σ H Q J (h b0 σ H env Qd Q hd xl ht k)
theorem PWD.pt {td : TTD} (h : PWD X g e td) : PTD X g e td := fun b0 σ H env Qd Q hd xl ht k pins s J => h b0 σ H env Qd Q hd xl ht k _ pins s J

def dVar (i : Nat) : TED := fun env Q => ∃ s d, env[i]? = some s ∧ rdSlot s = some d ∧ Q d
def dC (d : D) : TED := fun _ Q => Q d
theorem sd_var {K : PySem.W.Frag} {i : Nat} : SE K g (tVar i) (dVar i) := fun b0 σ H env Qd Q hd xl ⟨s, d, h1, h2, q⟩ k => by
  obtain ⟨v, e1, e2⟩ := hd.read h1 h2
  exact ⟨v, e1, k v d H (.refl hd.ok) e2 q⟩
theorem dv (i : Nat) {x : Str} {pos : Pos} (hN : X.N[i]? = some x := by rfl) (hv : Vis X.env.scope x := by first | exact Or.inl rfl | exact Or.inr (Or.inl rfl) | exact Or.inr (Or.inr rfl)) (hd : (x == ("__debug__" : Str)) = false := by decide)
    (hcd : (x == ("__classdict__" : Str)) = false := by decide) : PED X g (.Name x pos) (dVar i) := ped_of (pe_var hN hv hd hcd) sd_var
theorem sd_c {K : PySem.W.Frag} {v : V} {d : D} (h : ∀ H, Den K g.I.own H v d) : SE K g (tC v) (dC d) := fun b0 σ H env Qd Q hd xl q k => k v d H (.refl hd.ok) (h H) q
theorem d_int {i j pos} : PED X g (.Constant (.int i) j pos) (dC (.int i)) := ped_of pe_int (sd_c fun _ => by simp only [Den])
theorem d_bl {b j pos} : PED X g (.Constant (.bool b) j pos) (dC (.bl b)) := ped_of pe_bl (sd_c fun _ => by simp only [Den])
theorem d_non {j pos} : PED X g (.Constant .none j pos) (dC .non) := ped_of pe_non (sd_c fun _ => by simp only [Den])
theorem d_str {x j pos} : PED X g (.Constant (.str x) j pos) (dC (.str x)) := ped_of pe_str (sd_c fun _ => by simp only [Den])

def dOp (o : F2) (ta tb : TED) : TED := fun env Q => ta env fun x => tb env fun y => o x y Q
theorem sd_op {K : PySem.W.Frag} {ra rb : TE} {r : R2} (ha : SE K g ra ta) (hb : SE K g rb tb)
    (hr : ∀ (H : Hp) (x y : V) (dx dy : D) (Qd : D → Prop) (Q : VK), g.I.ok H → Den K g.I.own H x dx → Den K g.I.own H y dy → o dx dy Qd → (∀ v d H', Ext g.I H H' → Den K g.I.own H' v d → Qd d → Q v H') → r x y H Q) :
    SE K g (tOp r ra rb) (dOp o ta tb) := fun b0 σ H env Qd Q hd xl h k =>
  ha b0 σ H env _ _ hd xl h fun x dx H1 e1 dnx h1 => hb b0 σ H1 env _ _ (hd.mono e1) xl h1 fun y dy H2 e2 dny h2 =>
    hr H2 x y dx dy Qd Q e2.2 (Den.keep e2.1 _ _ dnx) dny h2 fun v d H' e3 dn q => k v d H' (e1.trans (e2.trans e3)) dn q
theorem d_op {op : Operator} (hr : RD X g.I (binaryOp op) o) (ha : PED X g a ta) (hb : PED X g b tb) : PED X g (.BinOp a op b pos) (dOp o ta tb) :=
  ped_of (pe_op or_w pe_w pe_w) (sd_op ha hb hr)
theorem d_cmp {op : CmpOp} (hr : RD X g.I (compareOp op) o) (ha : PED X g a ta) (hb : PED X g b tb) (hm : behindInMarks op b = false) : PED X g (.Compare a [op] [b] pos) (dOp o ta tb) :=
  ped_of (pe_cmpR or_w pe_w pe_w hm) (sd_op ha hb hr)
def dTest (td : TED) : TTD := fun env Q => td env fun d => ∃ c, d = .bl c ∧ Q c
theorem st_test {K : PySem.W.Frag} {te : TE} (h : SE K g te td) : ST K g (tTest te) (dTest td) := fun b0 σ H env Qd Q hd xl ht k =>
  h b0 σ H env _ _ hd xl ht fun v d H' e dn ⟨c, ed, q⟩ => by
    subst ed
    simp only [Den] at dn
    exact ⟨c, dn, k c H' e q⟩
theorem dt_cmp {op : CmpOp} (hr : RD X g.I (compareOp op) o) (ha : PED X g a ta) (hb : PED X g b tb) (hm : behindInMarks op b = false) : PTD X g (.Compare a [op] [b] pos) (dTest (dOp o ta tb)) :=
  ptd_of (pt_cmpR or_w pe_w pe_w hm) (st_test (sd_op ha hb hr))
theorem rd_of {r : R2} (ho : OpR X f r) (h : ∀ (H : Hp) (x y : V) (dx dy : D) (Qd : D → Prop) (Q : VK), I.ok H → Den X.K I.own H x dx → Den X.K I.own H y dy → o dx dy Qd → (∀ v d H', Ext I H H' → Den X.K I.own H' v d → Qd d → Q v H') → r x y H Q) : RD X I f o :=
  fun H x y dx dy Qd Q ok hx hy hg k => rw2_of ho (h H x y dx dy Qd Q ok hx hy hg k)
def fI (C : Int → Int → Prop) (h : Int → Int → D) : F2 := fun x y Q => ∃ i j, x = .int i ∧ y = .int j ∧ C i j ∧ Q (h i j)
def fI0 (h : Int → Int → D) : F2 := fun x y Q => ∃ i j, x = .int i ∧ y = .int j ∧ Q (h i j)
theorem rd_I {C : Int → Int → Prop} {gv : Int → Int → V} {h : Int → Int → D} (ho : OpR X f (rI C gv)) (hg : ∀ i j H, Den X.K I.own H (gv i j) (h i j)) : RD X I f (fI C h) :=
  rd_of ho fun H x y dx dy Qd Q ok hx hy ⟨i, j, e1, e2, c, q⟩ k => by
    subst e1 e2
    simp only [Den] at hx hy
    exact ⟨i, j, hx, hy, c, k _ _ H (.refl ok) (hg i j H) q⟩
theorem rd_I0 {gv : Int → Int → V} {h : Int → Int → D} (ho : OpR X f (rI0 gv)) (hg : ∀ i j H, Den X.K I.own H (gv i j) (h i j)) : RD X I f (fI0 h) :=
  rd_of ho fun H x y dx dy Qd Q ok hx hy ⟨i, j, e1, e2, q⟩ k => by
    subst e1 e2
    simp only [Den] at hx hy
    exact ⟨i, j, hx, hy, k _ _ H (.refl ok) (hg i j H) q⟩
abbrev fSub : F2 := fI0 fun i j => .int (i - j)
abbrev fMul : F2 := fI CMulW fun i j => .int (i * j)
abbrev fDiv : F2 := fI CDivW fun i j => .int (i / j)
abbrev fMod : F2 := fI (fun _ j => 0 < j) fun i j => .int (i % j)
abbrev fPow : F2 := fI CPow fun i j => .int (i ^ j.toNat)
theorem r_sub : RD X I (binaryOp .Sub) fSub := rd_I0 op_sub fun _ _ _ => by simp only [Den]
theorem r_mul : RD X I (binaryOp .Mult) fMul := rd_I op_mulW fun _ _ _ => by simp only [Den]
theorem r_div : RD X I (binaryOp .FloorDiv) fDiv := rd_I op_fdivW fun _ _ _ => by simp only [Den]
theorem r_mod : RD X I (binaryOp .Mod) fMod := rd_I op_mod fun _ _ _ => by simp only [Den]
theorem r_pow : RD X I (binaryOp .Pow) fPow := rd_I op_pow fun _ _ _ => by simp only [Den]
def fAdd : F2 := fun x y Q => match x, y with
  | .int i, .int j => Q (.int (i + j))
  | .str i, .str j => i.length + j.length ≤ sizeLine ∧ Q (.str (i ++ j))
  | .tup xs, .tup ys => xs.length + ys.length ≤ sizeLine ∧ Q (.tup (xs ++ ys))
  | .lst xs, .lst ys => xs.length + ys.length ≤ sizeLine ∧ Q (.lst (xs ++ ys))
  | _, _ => False
theorem r_add : RD X I (binaryOp .Add) fAdd := fun H x y dx dy Qd Q ok hx hy h k => by
  cases dx <;> cases dy <;> simp only [fAdd] at h
  case int.int i j =>
    simp only [Den] at hx hy
    exact rw2_of op_add ⟨i, j, hx, hy, k _ _ H (.refl ok) (by simp only [Den]) h⟩
  case str.str i j =>
    simp only [Den] at hx hy
    exact rw2_of op_add_str ⟨i, j, hx, hy, h.1, k _ _ H (.refl ok) (by simp only [Den]) h.2⟩
  case tup.tup xs ys =>
    have hx' := hx
    have hy' := hy
    simp only [Den] at hx hy
    obtain ⟨a, vs, rfl, s1, n1, r1⟩ := hx
    obtain ⟨b, ws, rfl, s2, n2, r2⟩ := hy
    refine rw2_of op_catA ⟨a, b, vs, ws, rfl, rfl, s1, s2, by rw [r1.len, r2.len]; exact h.1, fun e => ?_, fun e e2 => ?_, fun _ _ p hp => ?_⟩
    · have : xs = [] := by rw [← List.length_eq_zero_iff, ← r1.len, e]; rfl
      subst this
      exact k _ _ H (.refl ok) hy' h.2
    · have : ys = [] := by rw [← List.length_eq_zero_iff, ← r2.len, e2]; rfl
      subst this
      exact k _ _ H (.refl ok) hx' (by simpa using h.2)
    · refine k _ _ _ (.new ok hp) ?_ h.2
      have kk : Kp I.own H (upd H p (.tup (vs ++ ws))) := Kp.new hp
      simp only [Den]
      exact ⟨p, _, rfl, SqT.of upd_same, .inl ⟨HI.nown ok hp, upd_same⟩, DenA.app (DenA.keep kk _ _ r1) (DenA.keep kk _ _ r2)⟩
  case lst.lst xs ys =>
    simp only [Den] at hx hy
    obtain ⟨a, vs, rfl, s1, n1, r1⟩ := hx
    obtain ⟨b, ws, rfl, s2, n2, r2⟩ := hy
    refine rw2_of op_cat ⟨a, b, vs, ws, rfl, rfl, s1, s2, by rw [r1.len, r2.len]; exact h.1, fun p hp => ?_⟩
    refine k _ _ _ (.new ok hp) ?_ h.2
    have kk : Kp I.own H (upd H p (.lst (vs ++ ws))) := Kp.new hp
    simp only [Den]
    exact ⟨p, _, rfl, upd_same, HI.nown ok hp, DenA.app (DenA.keep kk _ _ r1) (DenA.keep kk _ _ r2)⟩
end
end Dl

namespace Dl
open PySem PySem.Spec PyProof.Rows L2

mutual
def D.py : D → PyData
  | .obj _ _ _ => .none | .non => .none | .bl b => .bool b | .int i => .int i | .str x => .str x | .tup xs => .tuple (pyA xs) | .lst xs => .list (pyA xs) | .ref _ => .none | .ty _ => .none
def pyA : List D → List PyData
  | [] => []
  | x :: xs => D.py x :: pyA xs
end
mutual
def D.good : D → Bool
  | .obj _ _ _ => false | .ref _ => false | .ty _ => false | .str x => PyData.strOk x | .tup xs => goodA xs | .lst xs => goodA xs | .non => true | .bl _ => true | .int _ => true
def goodA : List D → Bool
  | [] => true
  | x :: xs => D.good x && goodA xs
end
mutual
def D.dep : D → Nat
  | .obj _ _ _ => 0 | .tup xs => depA xs + 1 | .lst xs => depA xs + 1 | .non => 0 | .bl _ => 0 | .int _ => 0 | .str _ => 0 | .ref _ => 0 | .ty _ => 0
def depA : List D → Nat
  | [] => 0
  | x :: xs => max (D.dep x) (depA xs)
end
mutual
theorem py_can : ∀ d : D, d.good = true → d.py.canLay0 = true
  | .non, _ => rfl
  | .bl _, _ => rfl
  | .int _, _ => rfl
  | .str x, h => by simpa only [D.py, PyData.canLay0, D.good] using h
  | .tup xs, h => by simp only [D.py, PyData.canLay0]; exact pyA_can xs (by simpa only [D.good] using h)
  | .lst xs, h => by simp only [D.py, PyData.canLay0]; exact pyA_can xs (by simpa only [D.good] using h)
  | .ref _, h => by simp [D.good] at h
  | .ty _, h => by simp [D.good] at h
  | .obj _ _ _, h => by simp [D.good] at h
theorem pyA_can : ∀ ds : List D, goodA ds = true → PyData.canLayAll0 (pyA ds) = true
  | [], _ => rfl
  | x :: xs, h => by
    simp only [goodA, Bool.and_eq_true] at h
    simp only [pyA, PyData.canLayAll0, Bool.and_eq_true]
    exact ⟨py_can x h.1, pyA_can xs h.2⟩
end
mutual
theorem py_dep : ∀ d : D, d.py.depth = d.dep
  | .non => rfl
  | .bl _ => rfl
  | .int _ => rfl
  | .str x => rfl
  | .tup xs => by simp only [D.py, PyData.depth, D.dep, pyA_dep xs]
  | .lst xs => by simp only [D.py, PyData.depth, D.dep, pyA_dep xs]
  | .ref _ => rfl
  | .ty _ => rfl
  | .obj _ _ _ => rfl
theorem pyA_dep : ∀ ds : List D, PyData.depthAll (pyA ds) = depA ds
  | [] => rfl
  | x :: xs => by simp only [pyA, PyData.depthAll, depA, py_dep x, pyA_dep xs]
end
section
variable {K : PySem.W.Frag} {Av : Addr → Prop} {H : Hp}
mutual
theorem Den.dp : ∀ (d : D) (v : V), d.good = true → Den K Av H v d → Dp K H v d.py
  | .non, v, _, h => by simp only [Den] at h; subst h; exact .non
  | .bl b, v, _, h => by simp only [Den] at h; subst h; exact .bl b
  | .int b, v, _, h => by simp only [Den] at h; subst h; exact .int b
  | .str b, v, _, h => by simp only [Den] at h; subst h; exact .str b
  | .tup ds, v, g, h => by
    simp only [Den] at h
    obtain ⟨a, vs, rfl, s, _, r⟩ := h
    exact .tup s (DenA.dp ds vs (by simpa only [D.good] using g) r)
  | .lst ds, v, g, h => by
    simp only [Den] at h
    obtain ⟨a, vs, rfl, s, _, r⟩ := h
    exact .lst (SqL.of s) (DenA.dp ds vs (by simpa only [D.good] using g) r)
  | .ref _, _, g, _ => by simp [D.good] at g
  | .ty _, _, g, _ => by simp [D.good] at g
  | .obj _ _ _, _, g, _ => by simp [D.good] at g
theorem DenA.dp : ∀ (ds : List D) (vs : List V), goodA ds = true → DenA K Av H vs ds → DpAll K H vs (pyA ds)
  | [], vs, _, h => by simp only [DenA] at h; subst h; exact .nil
  | d :: ds, vs, g, h => by
    simp only [goodA, Bool.and_eq_true] at g
    simp only [DenA] at h
    obtain ⟨v, r, rfl, h1, h2⟩ := h
    exact .cons (Den.dp d v g.1 h1) (DenA.dp ds r g.2 h2)
end
end
def okD (d : D) : Prop := d.good = true ∧ d.dep ≤ 60
theorem okD.shaped {d : D} (h : okD d) : SeqAt.shaped d.py = true := by
  unfold SeqAt.shaped
  rw [py_can d h.1, py_dep d, decide_eq_true (by have := h.2; omega)]; rfl
def eqD (x y : D) : Bool := PyData.eqv x.py y.py
def anyD (xs : List D) (x : D) : Bool := xs.any fun z => eqD z x
theorem anyD_py (x : D) : ∀ xs : List D, (pyA xs).any (fun z => PyData.eqv z x.py) = anyD xs x
  | [] => rfl
  | y :: ys => by
    show (PyData.eqv y.py x.py || (pyA ys).any fun z => PyData.eqv z x.py) = (eqD y x || anyD ys x)
    rw [anyD_py x ys]; rfl
def xr (neg b : Bool) : Bool := if neg = true then !b else b

section
variable {X : Cx} {I : HI} {g : Gx} {e a b c : Expr} {es : List Expr} {te : TE} {tt : TT} {td ta tb tc : TED} {t u : TTD} {pos : Pos} {f : Value → Value → Sem Value} {o : F2}
def fEq (neg : Bool) : F2 := fun x y Q => okD x ∧ okD y ∧ Q (.bl (xr neg (eqD x y)))
theorem r_eq (hu : X.A.units + 64 < cLine) : RD X I (compareOp .Eq) (fEq false) := fun H x y dx dy Qd Q ok hx hy ⟨h1, h2, h⟩ k =>
  rw2_of (op_eqD hu) ⟨_, _, Den.dp dx x h1.1 hx, Den.dp dy y h2.1 hy, h1.shaped, h2.shaped, k _ _ H (.refl ok) (by simp only [Den]; rfl) h⟩
theorem r_ne (hu : X.A.units + 64 < cLine) : RD X I (compareOp .NotEq) (fEq true) := fun H x y dx dy Qd Q ok hx hy ⟨h1, h2, h⟩ k =>
  rw2_of (op_neD hu) ⟨_, _, Den.dp dx x h1.1 hx, Den.dp dy y h2.1 hy, h1.shaped, h2.shaped, k _ _ H (.refl ok) (by simp only [Den]; rfl) h⟩
def occ (x y : Str) : Bool := !(Builtin.Str.occurrences y x 0 y.length 1).isEmpty
def fIn (neg : Bool) : F2 := fun x y Q => match y with
  | .tup ys => okD x ∧ okD (.tup ys) ∧ Q (.bl (xr neg (anyD ys x)))
  | .lst ys => okD x ∧ okD (.lst ys) ∧ Q (.bl (xr neg (anyD ys x)))
  | .str t => ∃ s, x = .str s ∧ Q (.bl (xr neg (occ s t)))
  | _ => False
theorem room_in {A : Around} {d : D} {ds : List D} (h : okD d) (hu : A.units + 64 < cLine) : A.units + 1 + min (PyData.depthAll (pyA ds)) d.py.depth < cLine := by
  rw [py_dep d]
  have := h.2
  omega
def rInT (K : PySem.W.Frag) (neg : Bool) : R2 := fun x y H Q => ∃ (d : D) (ds : List D), okD d ∧ okD (.tup ds) ∧ Dp K H x d.py ∧ Dp K H y (.tuple (pyA ds)) ∧ Q (.bl (xr neg (anyD ds d))) H
theorem op_notInT (hu : X.A.units + 64 < cLine) : OpR X (compareOp .NotIn) (rInT X.K true) := by
  intro pins s σ H x y v u Q J rx ry ⟨d, ds, h1, h2, hd, he, q⟩
  obtain ⟨as, r1⟩ := Dp.reads J d.py x v hd rx
  obtain ⟨bs, r2⟩ := Dp.reads J (.tuple (pyA ds)) y u he ry
  refine SeqAt.notIn_tuple_reads r2 r1 (pyA_can ds (by simpa only [D.good] using h2.1)) (py_can d h1.1) (room_in h1 hu) ⟨.bl _, H, J, rfl, ?_⟩
  rw [anyD_py]; exact q
theorem r_nin (hu : X.A.units + 65 < cLine) : RD X I (compareOp .NotIn) (fIn true) := fun H x y dx dy Qd Q ok hx hy h k => by
  cases dy <;> simp only [fIn] at h
  case tup ys =>
    obtain ⟨h1, h2, h⟩ := h
    have hy' := Den.dp _ y h2.1 hy
    simp only [D.py] at hy'
    exact rw2_of (op_notInT (by omega)) ⟨dx, ys, h1, h2, Den.dp dx x h1.1 hx, hy', k _ _ H (.refl ok) (by simp only [Den]) h⟩
  case lst ys =>
    obtain ⟨h1, h2, h⟩ := h
    have hy' := Den.dp _ y h2.1 hy
    have s2 := h2.shaped
    simp only [D.py] at hy' s2
    refine rw2_of (op_notInD hu) ⟨_, _, Den.dp dx x h1.1 hx, hy', h1.shaped, s2, ?_⟩
    rw [anyD_py]
    exact k _ _ H (.refl ok) (by simp only [Den]; rfl) h
  case str t =>
    obtain ⟨s, rfl, h⟩ := h
    simp only [Den] at hx hy
    exact rw2_of op_notIn_str ⟨s, t, hx, hy, k _ _ H (.refl ok) (by simp only [Den]; rfl) h⟩
def fOrd (p : Int → Int → Bool) (q : List Int → List Int → Bool) : F2 := fun x y Q =>
  (∃ i j, x = .int i ∧ y = .int j ∧ Q (.bl (p i j))) ∨ ∃ ns ms : List Int, x = .tup (ns.map D.int) ∧ y = .tup (ms.map D.int) ∧ Q (.bl (q ns ms))
abbrev fLt : F2 := fOrd (fun i j => decide (i < j)) HT.lexLt
abbrev fGt : F2 := fI0 fun i j => .bl (decide (j < i))
abbrev fLe : F2 := fI0 fun i j => .bl (decide (i ≤ j))
abbrev fGe : F2 := fI0 fun i j => .bl (decide (j ≤ i))
theorem r_lt (hu : X.A.units < cLine) : RD X I (compareOp .Lt) fLt := fun H x y dx dy Qd Q ok hx hy h k => by
  rcases h with ⟨i, j, rfl, rfl, h⟩ | ⟨ns, ms, rfl, rfl, h⟩
  · simp only [Den] at hx hy
    exact rw2_of op_lt ⟨i, j, hx, hy, k _ _ H (.refl ok) (by simp only [Den]) h⟩
  · simp only [Den] at hx hy
    obtain ⟨a, vs, rfl, s1, n1, r1⟩ := hx
    obtain ⟨b, ws, rfl, s2, n2, r2⟩ := hy
    have e1 := r1.ofInts
    have e2 := r2.ofInts
    subst e1 e2
    exact rw2_of (op_ltT hu) ⟨a, b, ns, ms, rfl, rfl, s1, s2, k _ _ H (.refl ok) (by simp only [Den]) h⟩
theorem r_gt : RD X I (compareOp .Gt) fGt := rd_I0 op_gt fun _ _ _ => by simp only [Den]
theorem r_le : RD X I (compareOp .LtE) fLe := rd_I0 op_le fun _ _ _ => by simp only [Den]
theorem r_ge : RD X I (compareOp .GtE) fGe := rd_I0 op_ge fun _ _ _ => by simp only [Den]
def isN : D → Bool
  | .non => true
  | _ => false
theorem isN_den {K : PySem.W.Frag} {Av : Addr → Prop} {H : Hp} {v : V} {d : D} (h : Den K Av H v d) : decide (v = .non) = isN d := by
  cases d <;> simp only [Den] at h
  all_goals first
    | (subst h; rfl)
    | (obtain ⟨a, vs, rfl, _⟩ := h; rfl)
    | (rename_i q _ _; obtain ⟨ws, _, o, _⟩ := h; cases q <;> first | (obtain ⟨rfl, _⟩ := o; rfl) | (obtain ⟨a, rfl, _⟩ := o; rfl) | (obtain ⟨a, dd, rfl, _⟩ := o; rfl))
def fIs (neg : Bool) : F2 := fun x y Q => match y with
  | .non => Q (.bl (xr neg (isN x)))
  | .bl b => ∃ a, x = .bl a ∧ Q (.bl (xr neg (decide (a = b))))
  | _ => False
theorem r_is : RD X I (compareOp .Is) (fIs false) := fun H x y dx dy Qd Q ok hx hy h k => by
  cases dy <;> simp only [fIs] at h
  case non =>
    simp only [Den] at hy
    refine rw2_of op_isN ⟨hy, ?_⟩
    rw [isN_den hx]
    exact k _ _ H (.refl ok) (by simp only [Den]; rfl) h
  case bl b =>
    obtain ⟨a, rfl, h⟩ := h
    simp only [Den] at hx hy
    exact rw2_of op_is_bl ⟨a, b, hx, hy, k _ _ H (.refl ok) (by simp only [Den]; rfl) h⟩
theorem r_isnot : RD X I (compareOp .IsNot) (fIs true) := fun H x y dx dy Qd Q ok hx hy h k => by
  cases dy <;> simp only [fIs] at h
  case non =>
    simp only [Den] at hy
    refine rw2_of op_notN ⟨hy, ?_⟩
    rw [isN_den hx]
    exact k _ _ H (.refl ok) (by simp only [Den]; rfl) h
  case bl b =>
    obtain ⟨a, rfl, h⟩ := h
    simp only [Den] at hx hy
    exact rw2_of op_isnot_bl ⟨a, b, hx, hy, k _ _ H (.refl ok) (by simp only [Den]; rfl) h⟩
def fUn (h : Int → Int) : D → (D → Prop) → Prop := fun x Q => ∃ i, x = .int i ∧ Q (.int (h i))
def dUn (r : D → (D → Prop) → Prop) (ta : TED) : TED := fun env Q => ta env fun x => r x Q
theorem d_neg (ha : PED X g a ta) : PED X g (.UnaryOp .USub a pos) (dUn (fUn fun i => -i) ta) :=
  ped_of (pe_un un_neg pe_w) fun b0 σ H env Qd Q hd xl h k => ha b0 σ H env _ _ hd xl h fun v d H1 e1 dn ⟨i, ed, q⟩ => by
    subst ed
    simp only [Den] at dn
    exact ⟨i, dn, k _ _ H1 e1 (by simp only [Den]) q⟩

def dAnd (t u : TTD) : TTD := fun env Q => t env fun c => if c = true then u env Q else Q false
def dOr (t u : TTD) : TTD := fun env Q => t env fun c => if c = true then Q true else u env Q
def dNot (t : TTD) : TTD := fun env Q => t env fun c => Q (!c)
theorem dt_and1 (ha : PTD X g a t) : PWD X g (.BoolOp .And [a] pos) t := pwd_of (pw_and1 pt_w) ha
theorem dt_or1 (ha : PTD X g a t) : PWD X g (.BoolOp .Or [a] pos) t := pwd_of (pw_or1 pt_w) ha
theorem st_and {K : PySem.W.Frag} {ta tb : TT} (ha : ST K g ta t) (hb : ST K g tb u) : ST K g (tAnd ta tb) (dAnd t u) := fun b0 σ H env Qd Q hd xl h k =>
  ha b0 σ H env _ _ hd xl h fun c H1 e1 h1 => by
    cases c with
    | true => rw [if_pos rfl] at h1 ⊢; exact hb b0 σ H1 env _ _ (hd.mono e1) xl h1 fun c' H2 e2 q => k c' H2 (e1.trans e2) q
    | false => rw [if_neg Bool.false_ne_true] at h1 ⊢; exact k false H1 e1 h1
theorem st_or {K : PySem.W.Frag} {ta tb : TT} (ha : ST K g ta t) (hb : ST K g tb u) : ST K g (tOr ta tb) (dOr t u) := fun b0 σ H env Qd Q hd xl h k =>
  ha b0 σ H env _ _ hd xl h fun c H1 e1 h1 => by
    cases c with
    | false => rw [if_neg Bool.false_ne_true] at h1 ⊢; exact hb b0 σ H1 env _ _ (hd.mono e1) xl h1 fun c' H2 e2 q => k c' H2 (e1.trans e2) q
    | true => rw [if_pos rfl] at h1 ⊢; exact k true H1 e1 h1
theorem dt_and {rest : List Expr} (ha : PTD X g a t) (hb : PWD X g (.BoolOp .And (b :: rest) pos) u) : PWD X g (.BoolOp .And (a :: b :: rest) pos) (dAnd t u) := pwd_of (pw_and pt_w pw_w) (st_and ha hb)
theorem dt_or {rest : List Expr} (ha : PTD X g a t) (hb : PWD X g (.BoolOp .Or (b :: rest) pos) u) : PWD X g (.BoolOp .Or (a :: b :: rest) pos) (dOr t u) := pwd_of (pw_or pt_w pw_w) (st_or ha hb)
theorem dt_not (ha : PTD X g a t) : PTD X g (.UnaryOp .Not a pos) (dNot t) := ptd_of (pt_not pt_w) fun b0 σ H env Qd Q hd xl h k => ha b0 σ H env _ _ hd xl h fun c H1 e1 q => k _ H1 e1 q
def dAndV (ta tb : TED) : TED := fun env Q => ta env fun x => ∃ c, x = .bl c ∧ if c = true then tb env Q else Q (.bl false)
def dOrV (ta tb : TED) : TED := fun env Q => ta env fun x => ∃ c, x = .bl c ∧ if c = true then Q (.bl true) else tb env Q
def dNotV (ta : TED) : TED := fun env Q => ta env fun x => ∃ c, x = .bl c ∧ Q (.bl (!c))
theorem d_one {op} (h : PED X g a ta) : PED X g (.BoolOp op [a] pos) ta := ped_of (pe_one pe_w) h
theorem d_and {rest : List Expr} (ha : PED X g a ta) (hb : PED X g (.BoolOp .And (b :: rest) pos) tb) : PED X g (.BoolOp .And (a :: b :: rest) pos) (dAndV ta tb) :=
  ped_of (pe_and pe_w pe_w) fun b0 σ H env Qd Q hd xl h k => ha b0 σ H env _ _ hd xl h fun v d H1 e1 dn ⟨c, ed, h1⟩ => by
    subst ed
    simp only [Den] at dn
    refine ⟨c, dn, ?_⟩
    cases c with
    | true => rw [if_pos rfl] at h1 ⊢; exact hb b0 σ H1 env _ _ (hd.mono e1) xl h1 fun v' d' H2 e2 dn' q => k v' d' H2 (e1.trans e2) dn' q
    | false => rw [if_neg Bool.false_ne_true] at h1 ⊢; exact k _ _ H1 e1 (by simp only [Den]) h1
theorem d_or {rest : List Expr} (ha : PED X g a ta) (hb : PED X g (.BoolOp .Or (b :: rest) pos) tb) : PED X g (.BoolOp .Or (a :: b :: rest) pos) (dOrV ta tb) :=
  ped_of (pe_or pe_w pe_w) fun b0 σ H env Qd Q hd xl h k => ha b0 σ H env _ _ hd xl h fun v d H1 e1 dn ⟨c, ed, h1⟩ => by
    subst ed
    simp only [Den] at dn
    refine ⟨c, dn, ?_⟩
    cases c with
    | false => rw [if_neg Bool.false_ne_true] at h1 ⊢; exact hb b0 σ H1 env _ _ (hd.mono e1) xl h1 fun v' d' H2 e2 dn' q => k v' d' H2 (e1.trans e2) dn' q
    | true => rw [if_pos rfl] at h1 ⊢; exact k _ _ H1 e1 (by simp only [Den]) h1
theorem d_not (ha : PED X g a ta) : PED X g (.UnaryOp .Not a pos) (dNotV ta) :=
  ped_of (pe_not pe_w) fun b0 σ H env Qd Q hd xl h k => ha b0 σ H env _ _ hd xl h fun v d H1 e1 dn ⟨c, ed, h1⟩ => by
    subst ed
    simp only [Den] at dn
    exact ⟨c, dn, k _ _ H1 e1 (by simp only [Den]) h1⟩
def dIf (t : TTD) (ta tb : TED) : TED := fun env Q => t env fun c => if c = true then ta env Q else tb env Q
theorem d_ifExp (hc : PTD X g c t) (ha : PED X g a ta) (hb : PED X g b tb) : PED X g (.IfExp c a b pos) (dIf t ta tb) :=
  ped_of (pe_ifExp pt_w pe_w pe_w) fun b0 σ H env Qd Q hd xl h k => hc b0 σ H env _ _ hd xl h fun c H1 e1 h1 => by
    cases c with
    | true => rw [if_pos rfl] at h1 ⊢; exact ha b0 σ H1 env _ _ (hd.mono e1) xl h1 fun v' d' H2 e2 dn' q => k v' d' H2 (e1.trans e2) dn' q
    | false => rw [if_neg Bool.false_ne_true] at h1 ⊢; exact hb b0 σ H1 env _ _ (hd.mono e1) xl h1 fun v' d' H2 e2 dn' q => k v' d' H2 (e1.trans e2) dn' q
def dB (td : TED) : TTD := fun env Q => td env fun d => ∃ c, d = .bl c ∧ Q c
theorem dt_val (h : PED X g a td) (he : ∀ whole, isTrue a X.env whole = (do let v ← whole; standAt a.pos; holding [v] (truthy v)) := by intro _; rfl) : PTD X g a (dB td) :=
  ptd_of (pt_val pe_w he) fun b0 σ H env Qd Q hd xl h' k => h b0 σ H env _ _ hd xl h' fun v d H1 e1 dn ⟨c, ed, q⟩ => by
    subst ed
    simp only [Den] at dn
    exact ⟨c, dn, k c H1 e1 q⟩

def dNil : TAD := fun _ Q => Q []
def dCons (td : TED) (tr : TAD) : TAD := fun env Q => td env fun x => tr env fun xs => Q (x :: xs)
theorem da_nil : PAD X g [] dNil := pad_of pa_nil fun b0 σ H env Qd Q hd xl h k => k [] [] H (.refl hd.ok) (by simp only [DenA]) h
theorem da_cons {tr : TAD} (he : PED X g e td) (ht : PAD X g es tr) (hs : starEach (e :: es) X.env = (false, eval e X.env) :: starEach es X.env := by rfl) : PAD X g (e :: es) (dCons td tr) :=
  pad_of (pa_cons pe_w pa_w hs) fun b0 σ H env Qd Q hd xl h k => he b0 σ H env _ _ hd xl h fun v d H1 e1 dn h1 => ht b0 σ H1 env _ _ (hd.mono e1) xl h1 fun vs ds H2 e2 dn2 q =>
    k (v :: vs) (d :: ds) H2 (e1.trans e2) (by simp only [DenA]; exact ⟨v, vs, rfl, Den.keep e2.1 _ _ dn, dn2⟩) q
def dTup (ta : TAD) : TED := fun env Q => ta env fun xs => xs.length ≤ sizeLine ∧ Q (.tup xs)
def dLst (ta : TAD) : TED := fun env Q => ta env fun xs => xs.length ≤ sizeLine ∧ Q (.lst xs)
theorem new_tup {K : PySem.W.Frag} {H : Hp} {p : Addr} {vs : List V} {ds : List D} (ok : I.ok H) (hp : H p = none) (h : DenA K I.own H vs ds) : Den K I.own (upd H p (.tup vs)) (.ref p) (.tup ds) := by
  simp only [Den]
  exact ⟨p, vs, rfl, SqT.of upd_same, .inl ⟨HI.nown ok hp, upd_same⟩, DenA.keep (Kp.new hp) _ _ h⟩
theorem new_lst {K : PySem.W.Frag} {H : Hp} {p : Addr} {vs : List V} {ds : List D} (ok : I.ok H) (hp : H p = none) (h : DenA K I.own H vs ds) : Den K I.own (upd H p (.lst vs)) (.ref p) (.lst ds) := by
  simp only [Den]
  exact ⟨p, vs, rfl, upd_same, HI.nown ok hp, DenA.keep (Kp.new hp) _ _ h⟩
theorem d_tup {x1} {tas : TAD} (h : PAD X g es tas) : PED X g (.Tuple es x1 pos) (dTup tas) :=
  ped_of (pe_tup pa_w) fun b0 σ H env Qd Q hd xl hq k => h b0 σ H env _ _ hd xl hq fun vs ds H1 e1 dn ⟨z, q⟩ =>
    ⟨by rw [dn.len]; exact z, fun p hp => k _ _ _ (e1.trans (.new e1.2 hp)) (new_tup e1.2 hp dn) q⟩
theorem d_lst {tas : TAD} (h : PAD X g es tas) : PED X g (.List es pos) (dLst tas) :=
  ped_of (pe_lst pa_w) fun b0 σ H env Qd Q hd xl hq k => h b0 σ H env _ _ hd xl hq fun vs ds H1 e1 dn ⟨z, q⟩ =>
    ⟨by rw [dn.len]; exact z, fun p hp => k _ _ _ (e1.trans (.new e1.2 hp)) (new_lst e1.2 hp dn) q⟩

def fIx : F2 := fun x y Q => ∃ i : Int, y = .int i ∧ match x with
  | .tup xs => ∃ d, atI xs i = some d ∧ Q d
  | .lst xs => ∃ d, atI xs i = some d ∧ Q d
  | .str z => z.length ≤ sizeLine ∧ ∃ c, atI z.cps.toList i = some c ∧ Q (.str ⟨#[c]⟩)
  | _ => False
theorem atI_den {K : PySem.W.Frag} {Av : Addr → Prop} {H : Hp} {vs : List V} {ds : List D} {i : Int} {d : D} (h : DenA K Av H vs ds) (e : atI ds i = some d) : ∃ v, atI vs i = some v ∧ Den K Av H v d := by
  unfold atI at e ⊢
  rw [h.len]
  cases q : ixN ds.length i with
  | none => rw [q] at e; cases e
  | some j =>
    rw [q] at e
    exact h.get e
theorem d_ix (ha : PED X g a ta) (hb : PED X g b tb) (hs : PlainIx b := by intro _ _; rfl) : PED X g (.Subscript a b pos) (dOp fIx ta tb) :=
  ped_of (pe_ix ix_seq pe_w pe_w hs) (sd_op ha hb fun H x y dx dy Qd Q ok hx hy hh k => by
    obtain ⟨i, ey, h⟩ := hh
    subst ey
    simp only [Den] at hy
    cases dx <;> simp only at h
    case tup xs =>
      obtain ⟨d, e, q⟩ := h
      simp only [Den] at hx
      obtain ⟨a, vs, rfl, s1, n1, r1⟩ := hx
      obtain ⟨v, e2, dn⟩ := atI_den r1 e
      exact .inr (.inl ⟨a, vs, i, v, rfl, hy, s1, e2, k _ _ H (.refl ok) dn q⟩)
    case lst xs =>
      obtain ⟨d, e, q⟩ := h
      simp only [Den] at hx
      obtain ⟨a, vs, rfl, s1, n1, r1⟩ := hx
      obtain ⟨v, e2, dn⟩ := atI_den r1 e
      exact .inl ⟨a, vs, i, v, rfl, hy, SqL.of s1, e2, k _ _ H (.refl ok) dn q⟩
    case str z =>
      obtain ⟨z1, c, e, q⟩ := h
      simp only [Den] at hx
      exact .inr (.inr ⟨z, i, c, hx, hy, z1, e, k _ _ H (.refl ok) (by simp only [Den]) q⟩))
end
end Dl

namespace Dl
open PySem PySem.Spec PyProof.Rows L2

abbrev TOD := DEnv → (Option Int → Prop) → Prop
def wO (X : Cx) (e : Option Expr) : TO := fun σ H Q => ∀ pins s, Inv X pins σ H s → wpAny (model X.prog X.w) X.A (evalPart e X.env) (fun u s' => ∃ o H', Inv X pins σ H' s' ∧ IsPart u o ∧ Q o H') X.xe s
def SO (K : PySem.W.Frag) (g : Gx) (to : TO) (td : TOD) : Prop :=
  ∀ (b : B0) (σ : L2.St) (H : Hp) (env : DEnv) (Qd : Option Int → Prop) (Q : Option Int → Hp → Prop), DenE K g.I b σ H env → XL K g b → td env Qd → (∀ o H', Ext g.I H H' → Qd o → Q o H') → to σ H Q
def POD (X : Cx) (g : Gx) (e : Option Expr) (td : TOD) : Prop := SO X.K g (wO X e) td
def dNoP : TOD := fun _ Q => Q none
def dPart (td : TED) : TOD := fun env Q => td env fun x => ∃ i, x = .int i ∧ Q (some i)
def cutL {α : Type} (xs : List α) (lo hi : Option Int) : List α := (xs.drop (HT.sIx xs.length 0 lo)).take (HT.sIx xs.length xs.length hi - HT.sIx xs.length 0 lo)
def fSl : D → Option Int → Option Int → (D → Prop) → Prop := fun x lo hi Q => match x with
  | .tup xs => Q (.tup (cutL xs lo hi))
  | .lst xs => Q (.lst (cutL xs lo hi))
  | .str z => z.length ≤ sizeLine ∧ Q (.str (cutS z lo hi))
  | _ => False
def dSl (te : TED) (tl th : TOD) : TED := fun env Q => te env fun x => tl env fun lo => th env fun hi => fSl x lo hi Q
section
variable {X : Cx} {g : Gx} {e a b c : Expr} {es : List Expr} {td ta tb tc : TED} {t u : TTD} {pos : Pos} {lo hi : Option Expr} {tl th : TOD}
theorem do_none : POD X g none dNoP := fun b0 σ H env Qd Q hd xl ht k pins s J => po_none.run pins s σ H Q J (k none H (.refl hd.ok) ht)
theorem do_some (h : PED X g e td) : POD X g (some e) (dPart td) := fun b0 σ H env Qd Q hd xl ht k pins s J => (po_some pe_w).run pins s σ H Q J (h b0 σ H env _ _ hd xl ht fun v d H1 e1 dn ⟨i, ed, q⟩ => by
  subst ed
  simp only [Den] at dn
  exact ⟨i, dn, k _ H1 e1 q⟩)
theorem po_w {eo : Option Expr} : PO X eo (wO X eo) := ⟨fun pins s σ H Q I h => h pins s I⟩
theorem cut_den {K : PySem.W.Frag} {Av : Addr → Prop} {H : Hp} {vs : List V} {ds : List D} {lo hi : Option Int} (h : DenA K Av H vs ds) : DenA K Av H (cutV vs lo hi) (cutL ds lo hi) := by
  unfold cutV cutL
  rw [h.len]
  exact DenA.take _ (DenA.drop _ h)
theorem d_slice {p2 : Pos} (he : PED X g e td) (hl : POD X g lo tl) (hu : POD X g hi th) : PED X g (.Subscript e (.Slice lo hi none p2) pos) (dSl td tl th) :=
  ped_of (pe_slice (sl_list.or (sl_tupA.or sl_str)) pe_w po_w po_w) fun b0 σ H env Qd Q hd xl h k =>
    he b0 σ H env _ _ hd xl h fun v d H1 e1 dn h1 => hl b0 σ H1 env _ _ (hd.mono e1) xl h1 fun lo' H2 e2 h2 => hu b0 σ H2 env _ _ (hd.mono (e1.trans e2)) xl h2 fun hi' H3 e3 h3 => by
      replace dn := Den.keep (e2.trans e3).1 _ _ dn
      have ok := e3.2
      have ee := e1.trans (e2.trans e3)
      cases d <;> simp only [fSl] at h3 <;> simp only [Den] at dn
      case tup xs =>
        obtain ⟨a, vs, rfl, s1, n1, r1⟩ := dn
        refine .inr (.inl ⟨a, vs, rfl, s1, fun hw => k _ _ _ ee ?_ h3, fun hw p hp => k _ _ _ (ee.trans (.new ok hp)) (new_tup ok hp (cut_den r1)) h3⟩)
        have : cutL xs lo' hi' = xs := by
          unfold cutL
          rw [← r1.len, hw.1, hw.2, r1.len]
          simp
        rw [this]
        simp only [Den]
        exact ⟨a, vs, rfl, s1, n1, r1⟩
      case lst xs =>
        obtain ⟨a, vs, rfl, s1, n1, r1⟩ := dn
        exact .inl ⟨a, vs, rfl, SqL.of s1, fun p hp => k _ _ _ (ee.trans (.new ok hp)) (new_lst ok hp (cut_den r1)) h3⟩
      case str z => exact .inr (.inr ⟨z, dn, h3.1, k _ _ _ ee (by simp only [Den]) h3.2⟩)
end

def rwC (X : Cx) (f : Value) : List V → Hp → VK → Prop := fun xs H Q => ∀ pins s σ us, Inv X pins σ H s → Vals xs us → wpAny (model X.prog X.w) X.A (call f us) (EP X pins σ Q) X.xe s
abbrev FC := List D → (D → Prop) → Prop
def RC (X : Cx) (I : HI) (f : Value) (r : FC) : Prop :=
  ∀ (H : Hp) (xs : List V) (ds : List D) (Qd : D → Prop) (Q : VK), I.ok H → DenA X.K I.own H xs ds → r ds Qd → (∀ v d H', Ext I H H' → Den X.K I.own H' v d → Qd d → Q v H') → rwC X f xs H Q
def dCB (r : FC) (ta : TAD) : TED := fun env Q => ta env fun xs => r xs Q
section
variable {X : Cx} {I : HI} {g : Gx} {e a b c : Expr} {es : List Expr} {td ta tb tc : TED} {tas : TAD} {t u : TTD} {pos p : Pos} {f : Value} {r : FC} {x : Str}
theorem cr_w : CallR X f (rwC X f) := fun pins s σ H xs us Q J r h => h pins s σ us J r
theorem rc_of {f : Value} {r' : List V → Hp → VK → Prop} (h : CallR X f r') {xs : List V} {H : Hp} {Q : VK} (q : r' xs H Q) : rwC X f xs H Q := fun pins s σ us J rx => h pins s σ H xs us Q J rx q
theorem sd_cb {K : PySem.W.Frag} {ra : L2.TA} {r' : List V → Hp → VK → Prop} (ha : SA K g ra tas)
    (hr : ∀ (H : Hp) (xs : List V) (ds : List D) (Qd : D → Prop) (Q : VK), g.I.ok H → DenA K g.I.own H xs ds → r ds Qd → (∀ v d H', Ext g.I H H' → Den K g.I.own H' v d → Qd d → Q v H') → r' xs H Q) : SE K g (tCB r' ra) (dCB r tas) := fun b0 σ H env Qd Q hd xl h k =>
  ha b0 σ H env _ _ hd xl h fun vs ds H1 e1 dn q => hr H1 vs ds Qd Q e1.2 dn q fun v d H' e2 dn2 q2 => k v d H' (e1.trans e2) dn2 q2
theorem d_callB {id : String} (hc : RC X g.I (.builtin id) r) (hg : Gl X x) (hm : X.mg x = none) (hv : bootBuiltins x = some (.builtin id)) (ha : PAD X g (e :: es) tas) (hn : x ≠ "__name__" := by decide) (hdb : (x == ("__debug__" : Str)) = false := by decide)
    (he : starEach (e :: es) X.env = (false, eval e X.env) :: starEach es X.env := by rfl) (hpl : (backTo pos (starEach es X.env)).any (·.1) = false := by rfl) : PED X g (.Call (.Name x p) (e :: es) [] pos) (dCB r tas) :=
  ped_of (pe_callB cr_w hg hm hv pa_w hn hdb he hpl) (sd_cb ha hc)
theorem d_callTy {T : String} (hc : RC X g.I (.type T) r) (hg : Gl X x) (hm : X.mg x = none) (hv : bootBuiltins x = some (.type T)) (ha : PAD X g (e :: es) tas) (hn : x ≠ "__name__" := by decide) (hdb : (x == ("__debug__" : Str)) = false := by decide)
    (he : starEach (e :: es) X.env = (false, eval e X.env) :: starEach es X.env := by rfl) (hpl : (backTo pos (starEach es X.env)).any (·.1) = false := by rfl) : PED X g (.Call (.Name x p) (e :: es) [] pos) (dCB r tas) :=
  ped_of (pe_callTy cr_w hg hm hv pa_w hn hdb he hpl) (sd_cb ha hc)
theorem d_ty {n : String} (hg : Gl X x) (hm : X.mg x = none) (hv : bootBuiltins x = some (.type n)) (hn : x ≠ "__name__" := by decide) (hdb : (x == ("__debug__" : Str)) = false := by decide) : PED X g (.Name x p) (dC (.ty n)) :=
  ped_of (pe_bltn (v := .ty n) hg hm hv rfl hn hdb) (sd_c fun _ => by simp only [Den])
theorem DenA.nil {K : PySem.W.Frag} {Av : Addr → Prop} {H : Hp} {vs : List V} (h : DenA K Av H vs []) : vs = [] := by simpa only [DenA] using h
theorem DenA.cons {K : PySem.W.Frag} {Av : Addr → Prop} {H : Hp} {vs : List V} {d : D} {ds : List D} (h : DenA K Av H vs (d :: ds)) : ∃ v r, vs = v :: r ∧ Den K Av H v d ∧ DenA K Av H r ds := by simpa only [DenA] using h
theorem DenA.one1 {K : PySem.W.Frag} {Av : Addr → Prop} {H : Hp} {vs : List V} {d : D} (h : DenA K Av H vs [d]) : ∃ v, vs = [v] ∧ Den K Av H v d := by
  obtain ⟨v, r, rfl, h1, h2⟩ := h.cons
  cases h2.nil
  exact ⟨v, rfl, h1⟩
def bLen : FC := fun xs Q => ∃ x, xs = [x] ∧ match x with
  | .tup ys => Q (.int ys.length)
  | .lst ys => Q (.int ys.length)
  | .str z => z.length ≤ sizeLine ∧ Q (.int z.length)
  | _ => False
theorem c_len : RC X I (.builtin "len") bLen := fun H xs ds Qd Q ok dn hh k => by
  obtain ⟨x, rfl, h⟩ := hh
  obtain ⟨v, rfl, d1⟩ := dn.one1
  cases x <;> simp only at h <;> simp only [Den] at d1
  case tup ys =>
    obtain ⟨a, vs, rfl, s1, n1, r1⟩ := d1
    rw [← r1.len] at h
    exact rc_of call_len ⟨_, vs.length, rfl, .inr ⟨vs, s1, rfl⟩, k _ _ H (.refl ok) (by simp only [Den]) h⟩
  case lst ys =>
    obtain ⟨a, vs, rfl, s1, n1, r1⟩ := d1
    rw [← r1.len] at h
    exact rc_of call_len ⟨_, vs.length, rfl, .inl ⟨vs, SqL.of s1, rfl⟩, k _ _ H (.refl ok) (by simp only [Den]) h⟩
  case str z => subst d1; exact rc_of call_len_str ⟨z, rfl, h.1, k _ _ H (.refl ok) (by simp only [Den]) h.2⟩
def D.tyn : D → Option String
  | .non => some "NoneType" | .bl _ => some "bool" | .int _ => some "int" | .str _ => some "str" | .tup _ => some "tuple" | .lst _ => some "list" | .ref _ => none | .ty _ => none | .obj _ _ _ => none
def isiB (t n : String) : Bool := decide (t = n) || (decide (t = "bool") && decide (n = "int"))
def tyNames : List String := ["NoneType", "bool", "int", "str", "tuple", "list"]
theorem kitB_tab : ∀ t ∈ tyNames, ∀ n ∈ tyNames, kitB t n = some (isiB t n) := by decide +kernel
def tysOf : List D → Option (List String)
  | [] => some []
  | .ty n :: r => (tysOf r).map (n :: ·)
  | _ :: _ => none
def bIsi : FC := fun xs Q => ∃ x c, xs = [x, c] ∧ ∃ t, x.tyn = some t ∧ match c with
  | .ty n => n ∈ tyNames ∧ Q (.bl (isiB t n))
  | .tup cs => ∃ ns, tysOf cs = some ns ∧ (∀ n ∈ ns, n ∈ tyNames) ∧ Q (.bl (ns.any fun n => isiB t n))
  | _ => False
theorem tyn_mem {x : D} {t : String} (h : x.tyn = some t) : t ∈ tyNames := by
  cases x <;> simp only [D.tyn, Option.some.injEq] at h <;> first | (subst h; decide) | cases h
theorem tyx_den {K : PySem.W.Frag} {Av : Addr → Prop} {H : Hp} {v : V} {x : D} {t : String} (h : x.tyn = some t) (dn : Den K Av H v x) : TyX K H v (.type t) := by
  cases x <;> simp only [D.tyn, Option.some.injEq] at h <;> simp only [Den] at dn
  case non => subst h dn; exact .base .non
  case bl => subst h dn; exact .base (.bl _)
  case int => subst h dn; exact .base (.int _)
  case str => subst h dn; exact .base (.str _)
  case tup =>
    subst h
    obtain ⟨a, vs, rfl, s1, n1, r1⟩ := dn
    rcases s1 with (s | ⟨o, s⟩) | ⟨o, its, n, s, c, _⟩
    · exact .base (.tup s)
    · exact .fTuple s
    · exact .kTuple s c
  case lst =>
    subst h
    obtain ⟨a, vs, rfl, s1, n1, r1⟩ := dn
    exact .base (.lst s1)
  case ref => cases h
  case obj => cases h
  case ty => cases h
theorem kitAny_of {K : PySem.W.Frag} {t : String} (ht : t ∈ tyNames) : ∀ {ns : List String}, (∀ n ∈ ns, n ∈ tyNames) → PySem.W.kitAny K (.type t) (ns.map Value.type) = some (ns.any fun n => isiB t n)
  | [], _ => rfl
  | n :: ns, h => by
    have h1 : PySem.W.kitOne K (.type t) (.type n) = some (isiB t n) := kit_ty (kitB_tab t ht n (h n List.mem_cons_self))
    have ih := kitAny_of (K := K) ht (ns := ns) fun m hm => h m (List.mem_cons_of_mem _ hm)
    show (match PySem.W.kitOne K (.type t) (.type n) with
      | some true => some true
      | some false => PySem.W.kitAny K (.type t) (ns.map Value.type)
      | none => none) = some (isiB t n || ns.any fun n => isiB t n)
    rw [h1, ih]
    cases isiB t n <;> rfl
theorem tys_den {K : PySem.W.Frag} {Av : Addr → Prop} {H : Hp} : ∀ {cs : List D} {ns : List String} {vs : List V}, tysOf cs = some ns → DenA K Av H vs cs → Paired ClsV vs (ns.map Value.type)
  | [], ns, vs, h, dn => by
    cases dn.nil
    cases (show some [] = some ns from h)
    exact .nil
  | c :: cs, ns, vs, h, dn => by
    obtain ⟨v, r, rfl, h1, h2⟩ := dn.cons
    cases c <;> simp only [tysOf] at h
    case ty n =>
      obtain ⟨ms, e, rfl⟩ := Option.map_eq_some_iff.mp h
      simp only [Den] at h1
      subst h1
      exact .cons (.ty n) (tys_den e h2)
    all_goals cases h
theorem c_isi : RC X I (.builtin "isinstance") bIsi := fun H xs ds Qd Q ok dn hh k => by
  obtain ⟨x, c, rfl, t, ht, h⟩ := hh
  obtain ⟨v, r, rfl, d1, d2⟩ := dn.cons
  obtain ⟨w, rfl, d3⟩ := d2.one1
  cases c <;> simp only at h <;> simp only [Den] at d3
  case ty n =>
    subst d3
    exact rc_of call_isi ⟨v, .ty n, .type t, .type n, _, rfl, .ty n, tyx_den ht d1, kit_ty (kitB_tab t (tyn_mem ht) n h.1), k _ _ H (.refl ok) (by simp only [Den]) h.2⟩
  case tup cs =>
    obtain ⟨ns, h1, h2, q⟩ := h
    obtain ⟨a, vs, rfl, s1, n1, r1⟩ := d3
    rcases n1 with ⟨_, s⟩ | ⟨⟨oc, od, dt', osl⟩, its, n, s, c, dt, z, rv⟩
    · exact rc_of call_isiT ⟨v, a, vs, .type t, _, _, rfl, s, tys_den h1 r1, tyx_den ht d1, kitAny_of (tyn_mem ht) h2, k _ _ H (.refl ok) (by simp only [Den]) q⟩
    · simp only at c dt
      subst c dt
      have e : its.toList = ns.map Value.type := ClsV.all (tys_den h1 r1) rv
      have e2 : its = (ns.map Value.type).toArray := by rw [← e]
      subst e2
      exact rc_of call_isiK ⟨v, a, od, ns.map Value.type, n, osl, .type t, _, rfl, s, tyx_den ht d1, kitAny_of (tyn_mem ht) h2, k _ _ H (.refl ok) (by simp only [Den]) q⟩
end
end Dl

namespace Dl
open PySem PySem.Spec PyProof.Rows L2

section
variable {X : Cx} {I : HI} {g : Gx} {e a b c : Expr} {es : List Expr} {td ta tb tc : TED} {tas : TAD} {t u : TTD} {pos p : Pos} {f : Value} {r : FC} {x : Str}
def bTup : FC := fun xs Q => ∃ x, xs = [x] ∧ match x with
  | .tup ys => Q (.tup ys)
  | .lst ys => Q (.tup ys)
  | _ => False
theorem c_tup : RC X I (.type "tuple") bTup := fun H xs ds Qd Q ok dn hh k => by
  obtain ⟨x, rfl, h⟩ := hh
  obtain ⟨v, rfl, d1⟩ := dn.one1
  cases x <;> simp only at h
  case tup ys =>
    have d1' := d1
    simp only [Den] at d1
    obtain ⟨a, vs, rfl, s1, n1, r1⟩ := d1
    exact rc_of call_tuple_of ⟨a, vs, rfl, .inr ⟨s1, k _ _ H (.refl ok) d1' h⟩⟩
  case lst ys =>
    simp only [Den] at d1
    obtain ⟨a, vs, rfl, s1, n1, r1⟩ := d1
    exact rc_of call_tuple_of ⟨a, vs, rfl, .inl ⟨SqL.of s1, fun p hp => k _ _ _ (.new ok hp) (new_tup ok hp r1) h⟩⟩
def bLst : FC := fun xs Q => ∃ x, xs = [x] ∧ match x with
  | .tup ys => Q (.lst ys)
  | .lst ys => Q (.lst ys)
  | _ => False
theorem c_lst : RC X I (.type "list") bLst := fun H xs ds Qd Q ok dn hh k => by
  obtain ⟨x, rfl, h⟩ := hh
  obtain ⟨v, rfl, d1⟩ := dn.one1
  cases x <;> simp only at h <;> simp only [Den] at d1
  case tup ys =>
    obtain ⟨a, vs, rfl, s1, n1, r1⟩ := d1
    exact rc_of call_list_of ⟨a, vs, rfl, .inr s1, fun p hp => k _ _ _ (.new ok hp) (new_lst ok hp r1) h⟩
  case lst ys =>
    obtain ⟨a, vs, rfl, s1, n1, r1⟩ := d1
    exact rc_of call_list_of ⟨a, vs, rfl, .inl (SqL.of s1), fun p hp => k _ _ _ (.new ok hp) (new_lst ok hp r1) h⟩
def bInt : FC := fun xs Q => ∃ i, xs = [.int i] ∧ Q (.int i)
theorem c_int : RC X I (.type "int") bInt := fun H xs ds Qd Q ok dn ⟨i, e, h⟩ k => by
  subst e
  obtain ⟨v, rfl, d1⟩ := dn.one1
  simp only [Den] at d1
  subst d1
  exact rc_of call_int1 (.inl ⟨i, rfl, k _ _ H (.refl ok) (by simp only [Den]) h⟩)
def bAbs : FC := fun xs Q => ∃ i : Int, xs = [.int i] ∧ Q (.int (if i < 0 then -i else i))
theorem c_abs : RC X I (.builtin "abs") bAbs := fun H xs ds Qd Q ok dn ⟨i, e, h⟩ k => by
  subst e
  obtain ⟨v, rfl, d1⟩ := dn.one1
  simp only [Den] at d1
  subst d1
  exact rc_of call_abs ⟨i, rfl, k _ _ H (.refl ok) (by simp only [Den]) h⟩
theorem DenA.ofBls {K : PySem.W.Frag} {Av : Addr → Prop} {H : Hp} : ∀ {bs : List Bool} {vs : List V}, DenA K Av H vs (bs.map D.bl) → vs = bs.map V.bl
  | [], _, h => by simpa [DenA] using h
  | n :: ns, vs, h => by
    have h' : DenA K Av H vs (D.bl n :: ns.map D.bl) := h
    simp only [DenA, Den] at h'
    obtain ⟨v, r, rfl, rfl, h2⟩ := h'
    rw [DenA.ofBls h2]; rfl
def bAll : FC := fun xs Q => ∃ bs : List Bool, xs = [.lst (bs.map D.bl)] ∧ Q (.bl (bs.all id))
theorem c_all (hc : X.calm = true) : RC X I (.builtin "all") bAll := fun H xs ds Qd Q ok dn ⟨ns, e, h⟩ k => by
  subst e
  obtain ⟨v, rfl, d1⟩ := dn.one1
  simp only [Den] at d1
  obtain ⟨a, vs, rfl, s1, n1, r1⟩ := d1
  have e1 := r1.ofBls
  subst e1
  exact rc_of (cr_all hc) ⟨a, ns, rfl, SqL.of s1, k _ _ H (.refl ok) (by simp only [Den]) h⟩
abbrev Ct := List D → (D → Prop) → (Exc → Prop) → Prop
def spOf (K : PySem.W.Frag) (I : HI) (n : Nat) (C : Ct) : Sp := fun vs H Q E => ∃ ds Qd Ed, ds.length = n ∧ DenA K I.own H vs ds ∧ I.ok H ∧ C ds Qd Ed ∧
  (∀ v d H', Ext I H H' → Den K I.own H' v d → Qd d → Q v H') ∧ (∀ x d H', Ext I H H' → ExD K I H' x d → Ed x → E (.ref x.cls) d H')
def dCall (C : Ct) (dds : List D) (Ed : DEnv → Exc → Prop) (ta : TAD) : TED := fun env Q => ta env fun xs => C (xs ++ dds) Q (Ed env)
theorem run_fnD {k : Nat} {fa : Addr} {fd : FuncData} {ps : List Str} {sp : Sp} {ds : List Value} {dvs : List V} {pins : List (Addr × Obj)} {σ : L2.St} {H : Hp} {s : Shared} {Q : VK} {us : List Value} {vs : List V} {E : XK}
    (F : FnOk X.prog X.w X.K X.mg X.base (L2.CX X.prog X.w) k fa fd ps sp) (hr : Room k X.A) (hb : Binds X.K fd ps ds) (hd : Vals dvs ds) (hx : PassesAt (L2.CX X.prog X.w) X σ E)
    (J : Inv X pins σ H s) (r : Vals vs us) (h : sp (vs ++ dvs) H Q E) : wpAny (model X.prog X.w) X.A (call (.ref fa) us) (EP X pins σ Q) X.xe s := by
  have r2 : Vals (vs ++ dvs) (us ++ ds) := r.append hd
  have hl : (us ++ ds).length = ps.length := by rw [← r2.length]; exact F.len _ _ _ _ h
  refine wpAny_call (codeAny_mono (F.run X.A X.stack s H ⟨us, []⟩ (us ++ ds) (vs ++ dvs) Q E hr J.env0 (hb s us J.kIn hl) r2 h) fun r s' hq => ?_)
  cases r with
  | error e => exact hx pins H s e s' J hq
  | ok fl =>
    cases fl with
    | ret u => exact J.after hq
    | next => exact False.elim hq
    | brk => exact False.elim hq
    | cont => exact False.elim hq
theorem spOf_call {K : PySem.W.Frag} {n : Nat} {C : Ct} {H : Hp} {vs dvs : List V} {xs dds : List D} {Qd : D → Prop} {Ed : Exc → Prop} {Q : VK} {E : XK} (ok : I.ok H) (hl : (xs ++ dds).length = n) (dn : DenA K I.own H vs xs) (dd : DenA K I.own H dvs dds) (h : C (xs ++ dds) Qd Ed)
    (k : ∀ v d H', Ext I H H' → Den K I.own H' v d → Qd d → Q v H') (ke : ∀ x d H', Ext I H H' → ExD K I H' x d → Ed x → E (.ref x.cls) d H') : spOf K I n C (vs ++ dvs) H Q E :=
  ⟨xs ++ dds, Qd, Ed, hl, dn.app dd, ok, h, k, ke⟩
theorem d_call {k n : Nat} {fa : Addr} {fd : FuncData} {ps : List Str} {C : Ct} {ds : List Value} {dvs : List V} {dds : List D} (F : FnOk X.prog X.w X.K X.mg X.base (L2.CX X.prog X.w) k fa fd ps (spOf X.K g.I n C)) (hr : Room k X.A) (hg : Gl X x)
    (hm : X.mg x = some (.ref fa)) (hk : PySem.W.keepIn X.K (.ref fa) = true) (hb : Binds X.K fd ps ds) (hd : Vals dvs ds) (hdd : ∀ H, DenA X.K g.I.own H dvs dds) (tk : Takes X g.W) (hC : ∀ xs Q E, C xs Q E → xs.length = n) (ha : PAD X g (e :: es) tas)
    (hdb : (x == ("__debug__" : Str)) = false := by decide) (he : starEach (e :: es) X.env = (false, eval e X.env) :: starEach es X.env := by rfl) (hpl : (backTo pos (starEach es X.env)).any (·.1) = false := by rfl) :
    PED X g (.Call (.Name x p) (e :: es) [] pos) (dCall C dds g.Ed tas) := fun b0 σ H env Qd Q hd' xl h kq pins s J => by
  refine wpAny_Call_Name_kw (ld_glob J hg hm ?_ hdb)
  refine PySem.W.callWith_K (h₀ := X.base) J.ok.mod.kin hk (thn ((pa_w (es := e :: es)).run pos pins s σ H (fun vs H1 => spOf X.K g.I n C (vs ++ dvs) H1 Q (WE g.W σ)) J ?_) fun us s1 ⟨vs, H1, I1, r, q⟩ => ⟨I1.kIn, run_fnD F hr hb hd (passAt tk σ) I1 r q⟩) he hpl
  exact ha b0 σ H env _ _ hd' xl h fun vs xs H1 e1 dn q => spOf_call e1.2 (hC _ _ _ q) dn (hdd H1) q (fun v d H2 e2 dn2 q2 => kq v d H2 (e1.trans e2) dn2 q2) fun x d H2 e2 xd q2 => xl σ H env x d H2 hd' (e1.trans e2) xd q2
end

structure DEnds where
  nx : DEnv → Prop
  rt : D → Prop
  bk : DEnv → Prop := fun _ => False
  ct : DEnv → Prop := fun _ => False
abbrev TSD := DEnds → DEnv → Prop
structure EL (K : PySem.W.Frag) (g : Gx) (b : B0) (Dd : DEnds) (E : Ends) : Prop where
  nx : ∀ σ H env, DenE K g.I b σ H env → Dd.nx env → E.nx σ H
  rt : ∀ v d H, Ext g.I b.H0 H → Den K g.I.own H v d → Dd.rt d → E.rt v H
  bk : ∀ σ H env, DenE K g.I b σ H env → Dd.bk env → E.bk σ H
  ct : ∀ σ H env, DenE K g.I b σ H env → Dd.ct env → E.ct σ H
def SS (K : PySem.W.Frag) (g : Gx) (ts : TS) (td : TSD) : Prop :=
  ∀ (b : B0) (σ : L2.St) (H : Hp) (env : DEnv) (Dd : DEnds) (E : Ends), DenE K g.I b σ H env → XL K g b → td Dd env → EL K g b Dd E → ts E σ H
def wS (X : Cx) (st : Stmt) : TS := fun E σ H => ∀ pins s, Inv X pins σ H s → wpAny (model X.prog X.w) X.A (exec st X.env) (SP X pins E) X.xe s
def wSs (X : Cx) (sts : List Stmt) : TS := fun E σ H => ∀ pins s, Inv X pins σ H s → wpAny (model X.prog X.w) X.A (execs sts X.env) (SP X pins E) X.xe s
def PSD (X : Cx) (g : Gx) (st : Stmt) (td : TSD) : Prop := SS X.K g (wS X st) td
def PSsD (X : Cx) (g : Gx) (sts : List Stmt) (td : TSD) : Prop := SS X.K g (wSs X sts) td
section
variable {X : Cx} {g : Gx} {e : Expr} {st : Stmt} {rest sts sts2 : List Stmt} {td : TED} {tt : TTD} {ts t u : TSD} {ts' : TS} {pos : Pos}
theorem ps_w : PS X st (wS X st) := ⟨fun pins s σ H E J h => h pins s J⟩
theorem pss_w : PSs X sts (wSs X sts) := ⟨fun pins s σ H E J h => h pins s J⟩
theorem psd_of (p : PS X st ts') (h : SS X.K g ts' ts) : PSD X g st ts := fun b σ H env Dd E hd xl ht el pins s J => p.run pins s σ H E J (h b σ H env Dd E hd xl ht el)
theorem pssd_of (p : PSs X sts ts') (h : SS X.K g ts' ts) : PSsD X g sts ts := fun b σ H env Dd E hd xl ht el pins s J => p.run pins s σ H E J (h b σ H env Dd E hd xl ht el)
def sNext : TSD := fun Dd env => Dd.nx env
def sSeq (t u : TSD) : TSD := fun Dd env => t { Dd with nx := u Dd } env
theorem ds_nil : PSsD X g [] sNext := pssd_of pss_nil fun b σ H env Dd E hd xl h el => el.nx _ _ _ hd h
theorem ds_cons (h1 : PSD X g st t) (h2 : PSsD X g rest u) : PSsD X g (st :: rest) (sSeq t u) := pssd_of (pss_cons ps_w pss_w) fun b σ H env Dd E hd xl h el =>
  h1 b σ H env _ _ hd xl h ⟨fun σ' H' env' hd' h' => h2 b σ' H' env' _ _ hd' xl h' el, el.rt, el.bk, el.ct⟩
theorem ds_one (h1 : PSD X g st t) : PSsD X g [st] t := pssd_of (pss_one ps_w) h1
def sRet (td : TED) : TSD := fun Dd env => td env Dd.rt
theorem ds_ret (he : PED X g e td) : PSD X g (.Return (some e) pos) (sRet td) := psd_of (ps_ret pe_w) fun b σ H env Dd E hd xl h el => he b σ H env _ _ hd xl h fun v d H1 e1 dn q => el.rt v d H1 (hd.ext.trans e1) dn q
def sIf (c : TTD) (t u : TSD) : TSD := fun Dd env => c env fun b => if b = true then t Dd env else u Dd env
theorem ds_if {c : Expr} (hc : PTD X g c tt) (ha : PSsD X g sts t) (hb : PSsD X g sts2 u) : PSD X g (.If c sts sts2 pos) (sIf tt t u) := psd_of (ps_if pt_w pss_w pss_w) fun b σ H env Dd E hd xl h el =>
  hc b σ H env _ _ hd xl h fun c H1 e1 h1 => by
    cases c with
    | true => rw [if_pos rfl] at h1 ⊢; exact ha b σ H1 env Dd E (hd.mono e1) xl h1 el
    | false => rw [if_neg Bool.false_ne_true] at h1 ⊢; exact hb b σ H1 env Dd E (hd.mono e1) xl h1 el
def sDrop (td : TED) : TSD := fun Dd env => td env fun _ => Dd.nx env
theorem ds_expr (he : PED X g e td) (hs : swapsWith e none pos.line X.env = pure false := by rfl) : PSD X g (.Expr e pos) (sDrop td) := psd_of (ps_expr pe_w hs) fun b σ H env Dd E hd xl h el =>
  he b σ H env _ _ hd xl h fun v d H1 e1 dn q => el.nx _ _ _ (hd.mono e1) q

def noOwn : DEnv → Bool
  | [] => true
  | .own _ :: _ => false
  | .val _ :: r => noOwn r
  | .no :: r => noOwn r
theorem noOwn_get : ∀ {env : DEnv}, noOwn env = true → ∀ {i : Nat} {xs : List D}, env[i]? ≠ some (Slot.own xs)
  | [], _, i, xs => by simp
  | .own _ :: _, h, _, _ => by simp [noOwn] at h
  | .val d :: r, h, 0, xs => by simp
  | .no :: r, h, 0, xs => by simp
  | .val d :: r, h, i + 1, xs => by simpa using noOwn_get (env := r) (by simpa [noOwn] using h) (i := i) (xs := xs)
  | .no :: r, h, i + 1, xs => by simpa using noOwn_get (env := r) (by simpa [noOwn] using h) (i := i) (xs := xs)
def keepable (env : DEnv) (i : Nat) (d : D) : Prop := noOwn (env.set i .no) = true ∨ d.noLst = true
theorem get_set {α : Type} {l : List α} {i j : Nat} {x y : α} (h : (l.set i x)[j]? = some y) : (j = i ∧ y = x) ∨ (j ≠ i ∧ l[j]? = some y) := by
  by_cases e : j = i
  · subst e
    by_cases hl : j < l.length
    · rw [List.getElem?_set_self hl] at h
      exact .inl ⟨rfl, (Option.some.inj h).symm⟩
    · rw [List.getElem?_eq_none (by rw [List.length_set]; omega)] at h
      cases h
  · rw [List.getElem?_set_ne (Ne.symm e)] at h
    exact .inr ⟨e, h⟩
theorem DenE.put {K : PySem.W.Frag} {I : HI} {b : B0} {σ : L2.St} {H : Hp} {env : DEnv} (h : DenE K I b σ H env) {i : Nat} {v : V} {d : D} (dn : Den K I.own H v d) (kp : keepable env i d) : DenE K I b (σ.set i (some v)) H (env.set i (.val d)) := by
  obtain ⟨oa, h1, h2, h3, h4⟩ := h.slots
  have sub : ∀ a, AvOf I (env.set i (.val d)) oa a → AvOf I env oa a := fun a z => z.imp id fun ⟨j, xs, e, q⟩ => by
    rcases get_set e with ⟨_, e⟩ | ⟨_, e⟩
    · cases e
    · exact ⟨j, xs, e, q⟩
  refine ⟨by rw [List.length_set, List.length_set]; exact h.len, h.ext, oa, fun j xs e => ?_, fun j k xs ys e1 e2 => ?_, fun j d' e => ?_, fun p hp => Den.weak sub _ _ (h4 p hp)⟩
  · rcases get_set e with ⟨_, e⟩ | ⟨ne, e⟩
    · cases e
    · obtain ⟨⟨vs, e1, e2, e3⟩, e4⟩ := h1 j xs e
      exact ⟨⟨vs, by rw [List.getElem?_set_ne (Ne.symm ne)]; exact e1, e2, DenA.weak sub _ _ e3⟩, e4⟩
  · rcases get_set e1 with ⟨_, e1⟩ | ⟨_, e1⟩
    · cases e1
    · rcases get_set e2 with ⟨_, e2⟩ | ⟨_, e2⟩
      · cases e2
      · exact h2 j k xs ys e1 e2
  · rcases get_set e with ⟨ej, ed⟩ | ⟨ne, e⟩
    · have hl : j < σ.length := by
        rw [h.len]
        have := (List.getElem?_eq_some_iff.mp e).1
        rwa [List.length_set] at this
      subst ej
      have ed := Slot.val.inj ed
      subst ed
      refine ⟨v, by rw [List.getElem?_set_self hl], ?_⟩
      rcases kp with kp | kp
      · refine Den.weak (fun a z => ?_) _ _ dn
        rcases z with z | ⟨k, xs, e, _⟩
        · exact z
        · exfalso
          rcases get_set e with ⟨_, e⟩ | ⟨ne, e⟩
          · cases e
          · exact noOwn_get kp (i := k) (xs := xs) (by rw [List.getElem?_set_ne (Ne.symm ne)]; exact e)
      · refine Den.weak (fun a z => ?_) _ _ (Den.apart (P := fun a => ∃ (k : Nat) (xs : List D), env[k]? = some (Slot.own xs) ∧ a = oa k) (fun a ⟨k, xs, e, q⟩ => ?_) _ _ kp dn)
        · rcases z with z | ⟨k, xs, e, q⟩
          · exact .inl z
          · rcases get_set e with ⟨_, e⟩ | ⟨ne, e⟩
            · cases e
            · exact .inr ⟨k, xs, e, q⟩
        · obtain ⟨⟨vs, _, e2, _⟩, _⟩ := h1 k xs e
          rw [q]
          exact ⟨vs, e2⟩
    · obtain ⟨w, e1, e2⟩ := h3 j d' e
      exact ⟨w, by rw [List.getElem?_set_ne (Ne.symm ne)]; exact e1, Den.weak sub _ _ e2⟩
def sAsg (i : Nat) (td : TED) : TSD := fun Dd env => td env fun d => keepable env i d ∧ Dd.nx (env.set i (.val d))
theorem ds_set {i : Nat} {x : Str} {pos' : Pos} (hN : X.N.Nodup) (hi : X.N[i]? = some x) (hx : Loc X.env.scope x) (he : PED X g e td) (hs : swapsWith e (some (.Name x pos')) pos.line X.env = pure false := by rfl)
    (hf : X.fn x = true ∨ X.env.scope.names.lookup x = some .local := by first | exact .inl rfl | exact .inr rfl | assumption) : PSD X g (.Assign [.Name x pos'] e pos) (sAsg i td) :=
  psd_of (ps_set hN hi hx pe_w hs hf) fun b σ H env Dd E hd xl h el => he b σ H env _ _ hd xl h fun v d H1 e1 dn ⟨kp, q⟩ => el.nx _ _ _ ((hd.mono e1).put dn kp) q
end
end Dl

namespace Dl
open PySem PySem.Spec PyProof.Rows L2

section
variable {K : PySem.W.Frag} {I : HI} {b : B0} {σ : L2.St} {H H' : Hp} {env : DEnv}
theorem Kp.back {Av : Addr → Prop} {p : Addr} (k : Kp Av H H') (ha : Av p → H' p ≠ none) (h : H' p = none) : H p = none := by
  cases e : H p with
  | none => rfl
  | some o =>
    by_cases n : Av p
    · exact absurd h (ha n)
    · rw [k p o n e] at h; cases h
theorem Ext.back {p : Addr} (e : Ext I H H') (h : H' p = none) : H p = none := e.1.back (fun n => I.dom H' p e.2 (I.sub p n)) h
theorem Ext.ofNew (ok : I.ok H) (k : Kp (fun _ => False) H H') : Ext I H H' :=
  ⟨k.weak fun _ z => z.elim, I.loc H H' (fun a f => by
    cases e : H a with
    | none => exact absurd e (I.dom H a ok f)
    | some o => exact k a o id e) ok⟩
def frzS : Slot → Slot
  | .own xs => .val (.lst xs)
  | .val d => .val d
  | .no => .no
def frz (env : DEnv) : DEnv := env.map frzS
theorem frz_no {i : Nat} {xs : List D} : (frz env)[i]? ≠ some (Slot.own xs) := fun h => by
  unfold frz at h
  rw [List.getElem?_map] at h
  cases e : env[i]? with
  | none => rw [e] at h; cases h
  | some s => rw [e] at h; cases s <;> cases h
theorem noOwn_frz : ∀ env : DEnv, noOwn (frz env) = true
  | [] => rfl
  | .own _ :: r => noOwn_frz r
  | .val _ :: r => noOwn_frz r
  | .no :: r => noOwn_frz r
theorem DenE.frz (h : DenE K I b σ H env) : DenE K I b σ H (frz env) := by
  obtain ⟨oa, h1, h2, h3, h4⟩ := h.slots
  have sub : ∀ a, AvOf I (Dl.frz env) oa a → I.own a := fun a z => z.elim id fun ⟨i, xs, e, _⟩ => absurd e frz_no
  have sub2 : ∀ a, AvOf I (Dl.frz env) oa a → AvOf I env oa a := fun a z => .inl (sub a z)
  refine ⟨by rw [h.len]; unfold Dl.frz; rw [List.length_map], h.ext, oa, fun i xs e => absurd e frz_no, fun i j xs ys e => absurd e frz_no, fun i d e => ?_, fun p hp => Den.weak sub2 _ _ (h4 p hp)⟩
  have e2 : (env[i]?).map frzS = some (.val d) := by rw [← List.getElem?_map]; exact e
  obtain ⟨s, e3, e4⟩ := Option.map_eq_some_iff.mp e2
  cases s with
  | no => cases e4
  | val d' =>
    have ed := Slot.val.inj e4
    subst ed
    obtain ⟨v, q1, q2⟩ := h3 i d' e3
    exact ⟨v, q1, Den.weak sub2 _ _ q2⟩
  | own xs =>
    have ed := Slot.val.inj e4
    subst ed
    obtain ⟨⟨vs, q1, q2, q3⟩, _, q5⟩ := h1 i xs e3
    refine ⟨_, q1, ?_⟩
    simp only [Den]
    exact ⟨_, vs, rfl, q2, fun z => q5 (I.sub _ (sub _ z)), DenA.weak sub2 _ _ q3⟩
theorem DenE.hold (h : DenE K I b σ H env) {v : V} {d : D} (dn : Den K I.own H v d) (kp : noOwn env = true ∨ d.noLst = true) : DenE K I ⟨b.H0, (v, d) :: b.hs⟩ σ H env := by
  obtain ⟨oa, h1, h2, h3, h4⟩ := h.slots
  refine ⟨h.len, h.ext, oa, h1, h2, h3, fun p hp => ?_⟩
  rcases List.mem_cons.mp hp with e | hp
  · subst e
    rcases kp with kp | kp
    · exact Den.weak (fun a z => z.elim id fun ⟨k, xs, e, _⟩ => absurd e (noOwn_get kp)) _ _ dn
    · refine Den.weak (fun a z => z) _ _ (Den.apart (P := fun a => ∃ (k : Nat) (xs : List D), env[k]? = some (Slot.own xs) ∧ a = oa k) (fun a ⟨k, xs, e, q⟩ => ?_) _ _ kp dn)
      obtain ⟨⟨vs, _, e2, _⟩, _⟩ := h1 k xs e
      rw [q]; exact ⟨vs, e2⟩
  · exact h4 p hp
theorem DenE.unhold {hw : List (V × D)} (h : DenE K I ⟨b.H0, hw ++ b.hs⟩ σ H env) : DenE K I b σ H env := by
  obtain ⟨oa, h1, h2, h3, h4⟩ := h.slots
  exact ⟨h.len, h.ext, oa, h1, h2, h3, fun p hp => h4 p (List.mem_append_right _ hp)⟩
theorem DenE.putH {v : V} {d : D} (h : DenE K I ⟨b.H0, (v, d) :: b.hs⟩ σ H env) (i : Nat) : DenE K I b (σ.set i (some v)) H (env.set i (.val d)) := by
  obtain ⟨oa, h1, h2, h3, h4⟩ := h.slots
  have sub : ∀ a, AvOf I (env.set i (.val d)) oa a → AvOf I env oa a := fun a z => z.imp id fun ⟨j, xs, e, q⟩ => by
    rcases get_set e with ⟨_, e⟩ | ⟨_, e⟩
    · cases e
    · exact ⟨j, xs, e, q⟩
  refine ⟨by rw [List.length_set, List.length_set]; exact h.len, h.ext, oa, fun j xs e => ?_, fun j k xs ys e1 e2 => ?_, fun j d' e => ?_, fun p hp => Den.weak sub _ _ (h4 p (List.mem_cons_of_mem _ hp))⟩
  · rcases get_set e with ⟨_, e⟩ | ⟨ne, e⟩
    · cases e
    · obtain ⟨⟨vs, e1, e2, e3⟩, e4⟩ := h1 j xs e
      exact ⟨⟨vs, by rw [List.getElem?_set_ne (Ne.symm ne)]; exact e1, e2, DenA.weak sub _ _ e3⟩, e4⟩
  · rcases get_set e1 with ⟨_, e1⟩ | ⟨_, e1⟩
    · cases e1
    · rcases get_set e2 with ⟨_, e2⟩ | ⟨_, e2⟩
      · cases e2
      · exact h2 j k xs ys e1 e2
  · rcases get_set e with ⟨ej, ed⟩ | ⟨ne, e⟩
    · have hl : j < σ.length := by
        rw [h.len]
        have := (List.getElem?_eq_some_iff.mp e).1
        rwa [List.length_set] at this
      subst ej
      have ed := Slot.val.inj ed
      subst ed
      exact ⟨v, by rw [List.getElem?_set_self hl], Den.weak sub _ _ (h4 (v, d') List.mem_cons_self)⟩
    · obtain ⟨w, e1, e2⟩ := h3 j d' e
      exact ⟨w, by rw [List.getElem?_set_ne (Ne.symm ne)]; exact e1, Den.weak sub _ _ e2⟩
theorem DenE.parts {v : V} {ds : List D} (h : DenE K I ⟨b.H0, (v, .tup ds) :: b.hs⟩ σ H env) : ∃ a vs, v = .ref a ∧ SqT K H a vs ∧ vs.length = ds.length ∧ DenE K I ⟨b.H0, vs.zip ds ++ b.hs⟩ σ H env := by
  obtain ⟨oa, h1, h2, h3, h4⟩ := h.slots
  have := h4 (v, .tup ds) List.mem_cons_self
  simp only [Den] at this
  obtain ⟨a, vs, e, s, n, r⟩ := this
  refine ⟨a, vs, e, s, r.len, h.len, h.ext, oa, h1, h2, h3, fun p hp => ?_⟩
  rcases List.mem_append.mp hp with hp | hp
  · obtain ⟨i, hi⟩ := List.mem_iff_getElem?.mp hp
    rw [List.getElem?_zip_eq_some] at hi
    obtain ⟨w, q1, q2⟩ := r.get hi.2
    rw [hi.1] at q1
    cases q1
    exact q2
  · exact h4 p (List.mem_cons_of_mem _ hp)
end

abbrev TGD := D → DEnv → (DEnv → Prop) → Prop
def wG (X : Cx) (tg : Expr) : TG := fun v σ H Q => ∀ pins s u, Inv X pins σ H s → RelV v u → wpAny (model X.prog X.w) X.A (assign tg X.env u) (fun _ s' => ∃ σ' H', Inv X pins σ' H' s' ∧ Q σ' H') X.xe s
def SG (K : PySem.W.Frag) (g : Gx) (gt : TG) (gd : TGD) : Prop :=
  ∀ (b : B0) (σ : L2.St) (H : Hp) (env : DEnv) (v : V) (d : D) (Qd : DEnv → Prop) (Q : L2.St → Hp → Prop), DenE K g.I ⟨b.H0, (v, d) :: b.hs⟩ σ H env → gd d env Qd → (∀ σ' H' env', DenE K g.I b σ' H' env' → Ext g.I H H' → Qd env' → Q σ' H') → gt v σ H Q
def PGD (X : Cx) (g : Gx) (tg : Expr) (gd : TGD) : Prop := SG X.K g (wG X tg) gd
section
variable {X : Cx} {g : Gx} {tg : Expr} {pos : Pos} {gt : TG} {gd : TGD}
theorem pg_w : PG X tg (wG X tg) := ⟨fun pins s σ H v u Q J r h => h pins s u J r⟩
theorem pgd_of (p : PG X tg gt) (h : SG X.K g gt gd) : PGD X g tg gd := fun b σ H env v d Qd Q hd ht k pins s u J r => p.run pins s σ H v u Q J r (h b σ H env v d Qd Q hd ht k)
def gdName (i : Nat) : TGD := fun d env Q => Q (env.set i (.val d))
theorem sg_name {K : PySem.W.Frag} {i : Nat} : SG K g (gName i) (gdName i) := fun b σ H env v d Qd Q hd h k => k _ _ _ (hd.putH i) (.refl hd.ok) h
theorem dg_name {i : Nat} {x : Str} (hN : X.N.Nodup) (hi : X.N[i]? = some x) (hx : Loc X.env.scope x) (hf : X.fn x = true ∨ X.env.scope.names.lookup x = some .local := by first | exact .inl rfl | exact .inr rfl | assumption) : PGD X g (.Name x pos) (gdName i) :=
  pgd_of (pg_name hN hi hx hf) sg_name
def putAll : List Nat → List D → DEnv → DEnv
  | i :: is, d :: ds, env => putAll is ds (env.set i (.val d))
  | _, _, env => env
def gNames : List Nat → TGs
  | [] => gNil
  | i :: is => gCons (gName i) (gNames is)
def gdTup (is : List Nat) : TGD := fun d env Q => ∃ ds, d = .tup ds ∧ ds.length = is.length ∧ Q (putAll is ds env)
theorem sg_names {K : PySem.W.Frag} {I : HI} : ∀ (is : List Nat) (b : B0) (σ : L2.St) (H : Hp) (env : DEnv) (vs : List V) (ds : List D) (Q : L2.St → Hp → Prop), vs.length = ds.length → ds.length = is.length →
    DenE K I ⟨b.H0, vs.zip ds ++ b.hs⟩ σ H env → (∀ σ', DenE K I b σ' H (putAll is ds env) → Q σ' H) → gNames is vs σ H Q
  | [], b, σ, H, env, vs, ds, Q, h1, h2, hd, k => by
    have e1 : ds = [] := List.length_eq_zero_iff.mp h2
    subst e1
    have e2 : vs = [] := List.length_eq_zero_iff.mp h1
    subst e2
    exact ⟨rfl, k σ hd⟩
  | i :: is, b, σ, H, env, [], d :: ds, Q, h1, h2, hd, k => by cases h1
  | i :: is, b, σ, H, env, vs, [], Q, h1, h2, hd, k => by cases h2
  | i :: is, b, σ, H, env, v :: vs, d :: ds, Q, h1, h2, hd, k =>
    ⟨v, vs, rfl, sg_names is b _ H _ vs ds Q (Nat.succ.inj h1) (Nat.succ.inj h2) (DenE.putH (b := ⟨b.H0, vs.zip ds ++ b.hs⟩) hd i) k⟩
theorem sg_tup {K : PySem.W.Frag} {is : List Nat} : SG K g (gTup K is.length (gNames is)) (gdTup is) := fun b σ H env v d Qd Q hd ⟨ds, e, hl, h⟩ k => by
  subst e
  obtain ⟨a, vs, ev, s, hl2, hd2⟩ := hd.parts
  exact ⟨a, vs, ev, s, hl2.trans hl, sg_names is b σ H env vs ds Q hl2 hl hd2 fun σ' hd3 => k σ' H _ hd3 (.refl hd.ok) h⟩
theorem dg_tup {es : List Expr} {k : Nat} {is : List Nat} (hc : X.calm = true) (h : PGs X es (gNames is)) (hn : (assignEach es X.env).length = is.length := by rfl) (hst : List.findIdx? (fun x => x.fst) (assignEach es X.env) = none := by rfl) : PGD X g (.Tuple es k pos) (gdTup is) :=
  pgd_of (pg_tup (pos := pos) (k := k) (n := is.length) hc h hn hst) sg_tup
end

def ItD (K : PySem.W.Frag) (J : It) (hw : List (V × D)) (ds : List D) : Prop :=
  ∀ (Av : Addr → Prop) (H : Hp), (∀ p ∈ hw, Den K Av H p.1 p.2) → (∀ a, Av a → H a ≠ none) →
    (∀ i, i < ds.length → J.go i H ∧ ∀ x H', J.yld i H x H' → Kp (fun _ => False) H H' ∧ ∃ d, ds[i]? = some d ∧ Den K Av H' x d) ∧ J.stop ds.length H
abbrev TID := DEnv → (List D → Prop) → Prop
def wI (X : Cx) (tg it : Expr) : TI := fun σ H R => ∀ pins s, Inv X pins σ H s → wpAny (model X.prog X.w) X.A (eval it X.env) (fun v s1 => wpAny (model X.prog X.w) X.A (pyIter v) (PIE X pins σ tg R) X.xe s1) X.xe s
def SI (K : PySem.W.Frag) (g : Gx) (wi : TI) (td : TID) : Prop :=
  ∀ (b : B0) (σ : L2.St) (H : Hp) (env : DEnv) (Qd : List D → Prop) (R : It → Hp → Prop), DenE K g.I b σ H env → XL K g b → td env Qd →
    (∀ J H' hw ds, DenE K g.I ⟨b.H0, hw ++ b.hs⟩ σ H' env → Ext g.I H H' → ItD K J hw ds → Qd ds → R J H') → wi σ H R
def PID (X : Cx) (g : Gx) (tg it : Expr) (td : TID) : Prop := SI X.K g (wI X tg it) td
section
variable {X : Cx} {g : Gx} {tg it e a : Expr} {es : List Expr} {pos p : Pos} {wi : TI} {td : TED} {tid : TID} {tas : TAD}
theorem pi_w : PI X tg it (wI X tg it) := ⟨fun pins s σ H R J h => h pins s J⟩
theorem pid_of (p : PI X tg it wi) (h : SI X.K g wi tid) : PID X g tg it tid := fun b σ H env Qd R hd xl ht k pins s J => p.run pins s σ H R J (h b σ H env Qd R hd xl ht k)
theorem itd_list {K : PySem.W.Frag} {a : Addr} {ds : List D} : ItD K (Itl K a) [(.ref a, .lst ds)] ds := fun Av H hw _ => by
  have := hw _ List.mem_cons_self
  simp only [Den] at this
  obtain ⟨a', vs, e, s, n, r⟩ := this
  cases e
  refine ⟨fun i hi => ?_, vs, SqL.of s, by rw [r.len]; exact Nat.le_refl _⟩
  obtain ⟨v, q1, q2⟩ := r.get (List.getElem?_eq_getElem hi)
  exact ⟨⟨vs, v, SqL.of s, q1⟩, fun x H' ⟨e, y⟩ => by
    subst e
    have := y vs (SqL.of s)
    rw [q1] at this
    cases this
    exact ⟨Kp.refl, _, List.getElem?_eq_getElem hi, q2⟩⟩
theorem itd_tup {K : PySem.W.Frag} {a : Addr} {ds : List D} : ItD K (Itt K a) [(.ref a, .tup ds)] ds := fun Av H hw _ => by
  have := hw _ List.mem_cons_self
  simp only [Den] at this
  obtain ⟨a', vs, e, s, n, r⟩ := this
  cases e
  refine ⟨fun i hi => ?_, vs, s, by rw [r.len]; exact Nat.le_refl _⟩
  obtain ⟨v, q1, q2⟩ := r.get (List.getElem?_eq_getElem hi)
  exact ⟨⟨vs, v, s, q1⟩, fun x H' ⟨e, y⟩ => by
    subst e
    have := y vs s
    rw [q1] at this
    cases this
    exact ⟨Kp.refl, _, List.getElem?_eq_getElem hi, q2⟩⟩
def rngD (lo : Int) (n : Nat) : List D := (List.range n).map fun (i : Nat) => D.int (lo + (i : Int))
theorem rngD_len {lo : Int} {n : Nat} : (rngD lo n).length = n := by simp [rngD]
theorem rngD_get {lo : Int} {n i : Nat} (h : i < n) : (rngD lo n)[i]? = some (.int (lo + (i : Int))) := by simp [rngD, h]
theorem itd_rng {K : PySem.W.Frag} {lo : Int} {n : Nat} : ItD K (Itr lo n) [] (rngD lo n) := fun Av H hw _ => by
  refine ⟨fun i hi => ?_, by rw [rngD_len]; exact Nat.le_refl n⟩
  rw [rngD_len] at hi
  exact ⟨hi, fun x H' ⟨e, y⟩ => by
    subst e y
    exact ⟨Kp.refl, _, rngD_get hi, by simp only [Den]⟩⟩
def iSeq (K : PySem.W.Frag) (tl : TE) : TI := fun σ H R => tl σ H fun x H1 => (∃ a, x = .ref a ∧ (∃ xs, SqL K H1 a xs) ∧ R (Itl K a) H1) ∨ ∃ a, x = .ref a ∧ (∃ xs, SqT K H1 a xs) ∧ R (Itt K a) H1
theorem pi_seq {l : Expr} {tl : TE} (hl : PE X l tl) : PI X tg l (iSeq X.K tl) := by
  refine ⟨fun pins s σ H R I h => ?_⟩
  refine thn (hl.run pins s σ H _ I h) fun v s1 ⟨x, H1, I1, r1, q1⟩ => ?_
  rcases q1 with ⟨a, e, ⟨xs, hq⟩, q⟩ | ⟨a, e, ⟨xs, hq⟩, q⟩
  · subst e
    cases r1
    obtain ⟨its, rv, p, hz⟩ := I1.list hq
    refine wpAny_pyIter_list p.isList ?_
    refine ⟨s1.heap.objs.size, [s1.heap.objs.size], _, _, H1, rfl, I1.kept (t' := s1.toks) fun b o e => Heap.get?_push_of_some _ e, turn_list a _, ⟨_, Heap.get?_push_size _ rfl, rfl, rfl⟩, fun b hb => ?_, q⟩
    have e : b = s1.heap.objs.size := by simpa using hb
    subst e
    exact I1.fpOk (Nat.le_refl _) (I1.hok.fresh (Nat.le_refl _))
  · subst e
    cases r1
    obtain ⟨its, rv, p, hz⟩ := I1.tuple hq
    refine wpAny_pyIter_tuple (show s1.heap.IsTuple a its.toArray from p) ?_
    refine ⟨s1.heap.objs.size, [s1.heap.objs.size], _, _, H1, rfl, I1.kept (t' := s1.toks) fun b o e => Heap.get?_push_of_some _ e, turn_tuple a _, ⟨_, Heap.get?_push_size _ rfl, rfl, rfl⟩, fun b hb => ?_, q⟩
    have e : b = s1.heap.objs.size := by simpa using hb
    subst e
    exact I1.fpOk (Nat.le_refl _) (I1.hok.fresh (Nat.le_refl _))
def seqOf : D → Option (List D)
  | .tup xs => some xs
  | .lst xs => some xs
  | _ => none
def idSeq (td : TED) : TID := fun env Q => td env fun d => (noOwn env = true ∨ d.noLst = true) ∧ ∃ ds, seqOf d = some ds ∧ Q ds
theorem si_seq {K : PySem.W.Frag} {b : B0} {σ : L2.St} {H : Hp} {env : DEnv} {I : HI} {R : It → Hp → Prop} {v : V} {d : D} {ds : List D} (hd : DenE K I ⟨b.H0, (v, d) :: b.hs⟩ σ H env) (hs : seqOf d = some ds)
    (k : ∀ J hw, DenE K I ⟨b.H0, hw ++ b.hs⟩ σ H env → ItD K J hw ds → R J H) : (∃ a, v = .ref a ∧ (∃ xs, SqL K H a xs) ∧ R (Itl K a) H) ∨ ∃ a, v = .ref a ∧ (∃ xs, SqT K H a xs) ∧ R (Itt K a) H := by
  obtain ⟨oa, h1, h2, h3, h4⟩ := hd.slots
  have dn := h4 _ List.mem_cons_self
  cases d <;> simp only [seqOf, Option.some.injEq] at hs <;> simp only [Den] at dn
  case tup xs =>
    subst hs
    obtain ⟨a, vs, rfl, s, n, r⟩ := dn
    exact .inr ⟨a, rfl, ⟨vs, s⟩, k _ _ hd itd_tup⟩
  case lst xs =>
    subst hs
    obtain ⟨a, vs, rfl, s, n, r⟩ := dn
    exact .inl ⟨a, rfl, ⟨vs, SqL.of s⟩, k _ _ hd itd_list⟩
  all_goals cases hs
theorem di_seq (he : PED X g e td) : PID X g tg e (idSeq td) := pid_of (pi_seq pe_w) fun b σ H env Qd R hd xl ht k =>
  he b σ H env _ _ hd xl ht fun v d H1 e1 dn ⟨kp, ds, hs, q⟩ => si_seq ((hd.mono e1).hold dn kp) hs fun J hw hd2 it => k J H1 hw ds hd2 e1 it q
def idVar (i : Nat) : TID := fun env Q => ∃ d ds, env[i]? = some (.val d) ∧ seqOf d = some ds ∧ Q ds
theorem di_var (i : Nat) {x : Str} (hN : X.N[i]? = some x := by rfl) (hv : Vis X.env.scope x := by first | exact Or.inl rfl | exact Or.inr (Or.inl rfl) | exact Or.inr (Or.inr rfl)) (hd : (x == ("__debug__" : Str)) = false := by decide)
    (hcd : (x == ("__classdict__" : Str)) = false := by decide) : PID X g tg (.Name x p) (idVar i) := pid_of (pi_seq (pe_var hN hv hd hcd)) fun b σ H env Qd R hd xl ⟨d, ds, e, hs, q⟩ k => by
  obtain ⟨oa, h1, h2, h3, h4⟩ := hd.slots
  obtain ⟨v, q1, q2⟩ := h3 i d e
  refine ⟨v, q1, si_seq (b := b) (env := env) (σ := σ) (d := d) ⟨hd.len, hd.ext, oa, h1, h2, h3, fun p hp => ?_⟩ hs fun J hw hd2 it => k J H hw ds hd2 (.refl hd.ok) it q⟩
  rcases List.mem_cons.mp hp with z | hp
  · rw [z]; exact q2
  · exact h4 p hp
def idRng1 (ta : TAD) : TID := fun env Q => ta env fun xs => ∃ j : Int, xs = [.int j] ∧ (-(2 ^ 62) ≤ j ∧ j < 2 ^ 62) ∧ Q (rngD 0 j.toNat)
theorem di_range1 (hg : Gl X "range") (hm : X.mg "range" = none) (ha : PAD X g [a] tas) (hs : starEach [a] X.env = [(false, eval a X.env)] := by rfl) : PID X g tg (.Call (.Name "range" p) [a] [] pos) (idRng1 tas) :=
  pid_of (pi_range1 hg hm pa_w hs) fun b σ H env Qd R hd xl ht k => ha b σ H env _ _ hd xl ht fun vs ds H1 e1 dn ⟨j, e, hj, q⟩ => by
    subst e
    obtain ⟨v, rfl, d1⟩ := dn.one1
    simp only [Den] at d1
    subst d1
    exact ⟨j, rfl, hj.1, hj.2, k _ H1 [] _ (hd.mono e1) e1 itd_rng q⟩
end

def forD (gd : TGD) (tb : TSD) (Dd : DEnds) : List D → DEnv → Prop
  | [], env => Dd.nx env
  | x :: xs, env => gd x env (tb { Dd with nx := forD gd tb Dd xs, ct := forD gd tb Dd xs, bk := Dd.nx })
def sFor (tid : TID) (gd : TGD) (tb : TSD) : TSD := fun Dd env => tid env fun ds => forD gd tb Dd ds env
section
variable {X : Cx} {g : Gx} {tg it : Expr} {body : List Stmt} {pos : Pos} {tid : TID} {gd : TGD} {tb : TSD}
theorem ds_for (hp : PassesOwn (model X.prog X.w) X.A X.env X.xe) (hc : X.calm = true) (hi : PID X g tg it tid) (hg : PGD X g tg gd) (hb : PSsD X g body tb) (hs : ∀ x, foldedSetIterable it X.env x = pure x := by intro _; rfl) :
    PSD X g (.For tg it body [] pos) (sFor tid gd tb) := psd_of (ps_for hp hc pi_w pg_w pss_w hs) fun b σ H env Dd E hd xl h el =>
  hi b σ H env _ _ hd xl h fun J H1 hw ds hd1 e1 it0 q => by
    refine ⟨fun i m σ' H' => m = ds.length - i ∧ i ≤ ds.length ∧ ∃ env', DenE X.K g.I ⟨b.H0, hw ++ b.hs⟩ σ' H' env' ∧ forD gd tb Dd (ds.drop i) env', ⟨ds.length, by simp, Nat.zero_le _, env, hd1, by simpa using q⟩, ?_⟩
    rintro i m σ' H' ⟨rfl, hi', env', hd', q'⟩
    obtain ⟨oa, h1, h2, h3, h4⟩ := hd'.slots
    have hav : ∀ a, AvOf g.I env' oa a → H' a ≠ none := fun a z => by
      rcases z with z | ⟨k, xs, e, q⟩
      · exact g.I.dom H' a hd'.ok (g.I.sub a z)
      · obtain ⟨⟨vs, _, e2, _⟩, _⟩ := h1 k xs e
        rw [q, e2]; exact fun z => nomatch z
    have IT := it0 (AvOf g.I env' oa) H' (fun p hp => h4 p (List.mem_append_left _ hp)) hav
    by_cases hlt : i < ds.length
    · refine .inr ⟨(IT.1 i hlt).1, fun σ2 H2 => ∃ env2, DenE X.K g.I ⟨b.H0, hw ++ b.hs⟩ σ2 H2 env2 ∧ forD gd tb Dd (ds.drop (i + 1)) env2, fun σ2 H2 ⟨env2, p1, p2⟩ => ⟨ds.length - (i + 1), by omega, rfl, hlt, env2, p1, p2⟩, fun x H2 y => ?_⟩
      obtain ⟨kn, d, hd2, dn⟩ := (IT.1 i hlt).2 x H2 y
      have e2 : Ext g.I H' H2 := .ofNew hd'.ok kn
      have q2 : forD gd tb Dd (d :: ds.drop (i + 1)) env' := by
        rw [List.drop_eq_getElem_cons hlt] at q'
        have : d = ds[i] := by
          rw [List.getElem?_eq_getElem hlt] at hd2
          exact (Option.some.inj hd2).symm
        rw [this]; exact q'
      have hd3 := hd'.mono e2
      have held : DenE X.K g.I ⟨b.H0, (x, d) :: (hw ++ b.hs)⟩ σ' H2 env' := by
        have kp : Kp (AvOf g.I env' oa) H' H2 := kn.weak fun _ z => z.elim
        refine ⟨hd3.len, hd3.ext, oa, fun i xs q => ?_, h2, fun i d q => ?_, fun p hp => ?_⟩
        · obtain ⟨⟨vs, e1, e2, e3⟩, e4⟩ := h1 i xs q
          exact ⟨⟨vs, e1, kn _ _ id e2, DenA.keep kp _ _ e3⟩, e4⟩
        · obtain ⟨v, e1, e2⟩ := h3 i d q
          exact ⟨v, e1, Den.keep kp _ _ e2⟩
        · rcases List.mem_cons.mp hp with z | hp
          · rw [z]; exact dn
          · exact Den.keep kp _ _ (h4 p hp)
      refine hg ⟨b.H0, hw ++ b.hs⟩ σ' H2 env' x d _ _ held q2 fun σ3 H3 env3 hd4 e3 q3 => ?_
      refine hb ⟨b.H0, hw ++ b.hs⟩ σ3 H3 env3 _ _ hd4 (fun σ4 H4 env4 xx d4 H5 p1 p2 p3 p4 => xl σ4 H4 env4 xx d4 H5 p1.unhold p2 p3 p4) q3 ⟨fun σ4 H4 env4 p1 p2 => ⟨env4, p1, p2⟩, el.rt, fun σ4 H4 env4 p1 p2 => el.nx _ _ _ p1.unhold p2, fun σ4 H4 env4 p1 p2 => ⟨env4, p1, p2⟩⟩
    · have ei : i = ds.length := by omega
      subst ei
      rw [List.drop_length] at q'
      exact .inl ⟨IT.2, el.nx _ _ _ hd'.unhold q'⟩
end
end Dl

namespace Dl
open PySem PySem.Spec PyProof.Rows L2

abbrev TFD := DEnv → (List D → Prop) → Prop
def SF (K : PySem.W.Frag) (g : Gx) (te : TE) (td : TFD) : Prop :=
  ∀ (b : B0) (σ : L2.St) (H : Hp) (env : DEnv) (Qd : List D → Prop) (Q : VK), DenE K g.I b σ H env → XL K g b → td env Qd →
    (∀ p vs ds H', H p = none → Ext g.I H H' → H' p = some (.lst vs) → DenA K (fun a => g.I.own a ∨ a = p) H' vs ds → Qd ds → Q (.ref p) H') → te σ H Q
def PFD (X : Cx) (g : Gx) (e : Expr) (td : TFD) : Prop := SF X.K g (wE X e) td
def dF (td : TFD) : TED := fun env Q => td env fun ds => Q (.lst ds)
theorem SF.se {K : PySem.W.Frag} {g : Gx} {te : TE} {td : TFD} (h : SF K g te td) : SE K g te (dF td) := fun b σ H env Qd Q hd xl ht k =>
  h b σ H env _ _ hd xl ht fun p vs ds H' hp e hl dn q => k _ _ H' e (by
    simp only [Den]
    exact ⟨p, vs, rfl, hl, HI.nown hd.ok hp, DenA.weak (fun a z => .inl z) _ _ dn⟩) q

def wBE (X : Cx) (sc : Scope) (e : Expr) : TE := fun σ H Q => ∀ s0 H0 C cl fp pins s, Inv (X.blk s0 H0 sc (compEnvC sc cl C X.env) fp) pins σ H s → wpAny (model X.prog X.w) X.A (eval e (compEnvC sc cl C X.env)) (EP (X.blk s0 H0 sc (compEnvC sc cl C X.env) fp) pins σ Q) (fun _ _ => False) s
def wBT (X : Cx) (sc : Scope) (es : List Expr) : TT := fun σ H Q => ∀ s0 H0 C cl fp pins s, Inv (X.blk s0 H0 sc (compEnvC sc cl C X.env) fp) pins σ H s →
  wpAny (model X.prog X.w) X.A (forIn es true fun c r => if r = true then do let ok ← isTrue c (compEnvC sc cl C X.env) (eval c (compEnvC sc cl C X.env)); pure (ForInStep.yield ok) else pure (ForInStep.yield r)) (TP (X.blk s0 H0 sc (compEnvC sc cl C X.env) fp) pins σ Q) (fun _ _ => False) s
def dYes : TTD := fun _ Q => Q true
section
variable {X : Cx} {g : Gx} {sc : Scope} {e c : Expr} {td : TED} {tt : TTD}
theorem pe_blk {s : Shared} {H : Hp} {C : Addr} {cl : List (Str × Addr)} {fp : List Addr} : PE (X.blk s H sc (compEnvC sc cl C X.env) fp) e (wBE X sc e) := ⟨fun pins s σ H Q I h => h _ _ _ _ _ pins s I⟩
theorem pt_blk {es : List Expr} {s : Shared} {H : Hp} {C : Addr} {cl : List (Str × Addr)} {fp : List Addr} : PTs (X.blk s H sc (compEnvC sc cl C X.env) fp) es (wBT X sc es) := ⟨fun pins s σ H Q I h => h _ _ _ _ _ pins s I⟩
theorem be_of (h : ∀ (s : Shared) (H : Hp) (C : Addr) (cl : List (Str × Addr)) (fp : List Addr), PED (X.blk s H sc (compEnvC sc cl C X.env) fp) g.nox e td) : SE X.K g.nox (wBE X sc e) td :=
  fun b σ H env Qd Q hd xl ht k s0 H0 C cl fp pins s J => h s0 H0 C cl fp b σ H env Qd Q hd xl ht k pins s J
theorem bt_nil : ST X.K g.nox (wBT X sc []) dYes := fun b σ H env Qd Q hd xl ht k s0 H0 C cl fp pins s J => pts_nil.run pins s σ H Q J (k true H (.refl hd.ok) ht)
theorem bt_one (h : ∀ (s : Shared) (H : Hp) (C : Addr) (cl : List (Str × Addr)) (fp : List Addr), PTD (X.blk s H sc (compEnvC sc cl C X.env) fp) g.nox c tt) : ST X.K g.nox (wBT X sc [c]) tt :=
  fun b σ H env Qd Q hd xl ht k s0 H0 C cl fp pins s J => (pts_one pt_w).run pins s σ H Q J (h s0 H0 C cl fp b σ H env Qd Q hd xl ht k)
end
def wipeD (env : DEnv) : List Nat → DEnv
  | [] => env
  | v :: vs => (wipeD env vs).set v .no
def lcD (gd : TGD) (tt : TTD) (te : TED) (env : DEnv) : List D → List D → (List D → Prop) → Prop
  | [], acc, Q => Q acc
  | x :: xs, acc, Q => gd x env fun env2 => tt env2 fun b => if b = true then te env2 fun y => y.noLst = true ∧ lcD gd tt te env xs (acc ++ [y]) Q else lcD gd tt te env xs acc Q
def fLc (tid : TID) (gd : TGD) (tt : TTD) (te : TED) (vs : List Nat) : TFD := fun env Q => tid (frz env) fun ds => ds.length ≤ 1000000 ∧ lcD gd tt te (wipeD (frz env) vs) ds [] Q
def GW (gt : TG) (vs : List Nat) : Prop := ∀ v σ H Q, gt v σ H Q → gt v σ H fun σ2 H2 => wipe σ2 vs = wipe σ vs ∧ Q σ2 H2
theorem wipe_set {σ : L2.St} {i : Nat} {x : Option V} : ∀ {vs : List Nat}, wipe (σ.set i x) vs = if i ∈ vs then wipe σ vs else (wipe σ vs).set i x
  | [] => by simp [wipe]
  | v :: vs => by
    unfold wipe
    rw [wipe_set]
    by_cases h : i ∈ vs
    · rw [if_pos h, if_pos (List.mem_cons_of_mem _ h)]
    · rw [if_neg h]
      by_cases e : i = v
      · subst e
        rw [if_pos List.mem_cons_self, List.set_set]
      · rw [if_neg (fun z => (List.mem_cons.mp z).elim e h), List.set_comm _ _ e]
theorem gw_name {i : Nat} {vs : List Nat} (h : i ∈ vs) : GW (gName i) vs := fun v σ H Q q => ⟨by rw [wipe_set, if_pos h], q⟩
theorem gw_names {vs : List Nat} : ∀ {is : List Nat}, (∀ i ∈ is, i ∈ vs) → ∀ ws σ H Q, gNames is ws σ H Q → gNames is ws σ H fun σ2 H2 => wipe σ2 vs = wipe σ vs ∧ Q σ2 H2
  | [], _, ws, σ, H, Q, q => ⟨q.1, rfl, q.2⟩
  | i :: is, h, ws, σ, H, Q, ⟨v, r, e, q⟩ => by
    refine ⟨v, r, e, ?_⟩
    have := gw_names (is := is) (fun j hj => h j (List.mem_cons_of_mem _ hj)) r (σ.set i (some v)) H Q q
    rw [wipe_set, if_pos (h i List.mem_cons_self)] at this
    exact this
theorem gw_tup {K : PySem.W.Frag} {n : Nat} {is vs : List Nat} (h : ∀ i ∈ is, i ∈ vs) : GW (gTup K n (gNames is)) vs := fun v σ H Q ⟨a, xs, e, s, hl, q⟩ => ⟨a, xs, e, s, hl, gw_names h xs σ H Q q⟩
theorem wipe_idem {σ : L2.St} : ∀ vs : List Nat, wipe (wipe σ vs) vs = wipe σ vs := by
  have key : ∀ (ws : List Nat) (τ : L2.St) (vs : List Nat), (∀ w ∈ ws, w ∈ vs) → wipe (wipe τ ws) vs = wipe τ vs := by
    intro ws
    induction ws with
    | nil => intro τ vs _; rfl
    | cons w ws ih =>
      intro τ vs h
      show wipe ((wipe τ ws).set w none) vs = _
      rw [wipe_set, if_pos (h w List.mem_cons_self)]
      exact ih τ vs fun v hv => h v (List.mem_cons_of_mem _ hv)
  exact fun vs => key vs σ vs fun _ h => h
section
variable {K : PySem.W.Frag} {I : HI} {b : B0} {σ : L2.St} {H H' : Hp} {env : DEnv}
theorem DenE.clear (h : DenE K I b σ H env) (i : Nat) : DenE K I b (σ.set i none) H (env.set i .no) := by
  obtain ⟨oa, h1, h2, h3, h4⟩ := h.slots
  have sub : ∀ a, AvOf I (env.set i .no) oa a → AvOf I env oa a := fun a z => z.imp id fun ⟨j, xs, e, q⟩ => by
    rcases get_set e with ⟨_, e⟩ | ⟨_, e⟩
    · cases e
    · exact ⟨j, xs, e, q⟩
  refine ⟨by rw [List.length_set, List.length_set]; exact h.len, h.ext, oa, fun j xs e => ?_, fun j k xs ys e1 e2 => ?_, fun j d' e => ?_, fun p hp => Den.weak sub _ _ (h4 p hp)⟩
  · rcases get_set e with ⟨_, e⟩ | ⟨ne, e⟩
    · cases e
    · obtain ⟨⟨vs, e1, e2, e3⟩, e4⟩ := h1 j xs e
      exact ⟨⟨vs, by rw [List.getElem?_set_ne (Ne.symm ne)]; exact e1, e2, DenA.weak sub _ _ e3⟩, e4⟩
  · rcases get_set e1 with ⟨_, e1⟩ | ⟨_, e1⟩
    · cases e1
    · rcases get_set e2 with ⟨_, e2⟩ | ⟨_, e2⟩
      · cases e2
      · exact h2 j k xs ys e1 e2
  · rcases get_set e with ⟨_, ed⟩ | ⟨ne, e⟩
    · cases ed
    · obtain ⟨w, e1, e2⟩ := h3 j d' e
      exact ⟨w, by rw [List.getElem?_set_ne (Ne.symm ne)]; exact e1, Den.weak sub _ _ e2⟩
theorem DenE.wiped (h : DenE K I b σ H env) : ∀ vs : List Nat, DenE K I b (wipe σ vs) H (wipeD env vs)
  | [] => h
  | v :: vs => (DenE.wiped h vs).clear v
theorem DenE.rebase {hw : List (V × D)} (h : DenE K I ⟨b.H0, hw ++ b.hs⟩ σ H env) (n : noOwn env = true) : DenE K I ⟨H, hw⟩ σ H env := by
  obtain ⟨oa, h1, h2, h3, h4⟩ := h.slots
  exact ⟨h.len, .refl h.ok, oa, fun i xs e => absurd e (noOwn_get n), h2, h3, fun p hp => h4 p (List.mem_append_left _ hp)⟩
theorem noOwn_wipe {env : DEnv} (h : noOwn env = true) : ∀ vs : List Nat, noOwn (wipeD env vs) = true
  | [] => h
  | v :: vs => by
    have ih := noOwn_wipe h vs
    show noOwn ((wipeD env vs).set v .no) = true
    generalize wipeD env vs = e at ih
    clear h
    induction e generalizing v with
    | nil => simp [noOwn]
    | cons s r ihr =>
      cases v with
      | zero => cases s <;> simp_all [noOwn]
      | succ v => cases s <;> simp_all [noOwn]
end
theorem sf_lc {K : PySem.W.Frag} {g : Gx} {wi : TI} {gt : TG} {tt : TT} {te : TE} {vs : List Nat} {tid : TID} {gd : TGD} {td : TTD} {ed : TED} (hi : SI K g wi tid) (hg : SG K g.nox gt gd) (hw : GW gt vs) (ht : ST K g.nox tt td) (he : SE K g.nox te ed) :
    SF K g (tLc wi gt tt te vs) (fLc tid gd td ed vs) := fun b σ H env Qd Q hd xl hq k => by
  refine hi b σ H (frz env) _ _ hd.frz xl hq fun J H1 hws ds hd1 e1 it0 ⟨hlen, q⟩ => ?_
  intro D hD
  have hH : H D = none := e1.back hD
  have hE : DenE K g.I ⟨H1, hws⟩ (wipe σ vs) H1 (wipeD (frz env) vs) := (hd1.rebase (noOwn_frz env)).wiped vs
  have hno := noOwn_wipe (noOwn_frz env) vs
  have nD : ¬ g.I.own D := HI.nown e1.2 hD
  refine ⟨fun i m H' => m = ds.length - i ∧ i ≤ ds.length ∧ ∃ acc avs, H' D = some (.lst avs) ∧ avs.length ≤ i ∧ DenA K (fun a => g.I.own a ∨ a = D) H' avs acc ∧ Kp g.I.own H1 H' ∧ g.I.ok H' ∧ lcD gd td ed (wipeD (frz env) vs) (ds.drop i) acc Qd,
    ⟨ds.length, by simp, Nat.zero_le _, [], [], upd_same, Nat.zero_le _, by simp only [DenA], Kp.new hD, (Ext.new e1.2 hD).2, by simpa using q⟩, ?_⟩
  rintro i m H' ⟨rfl, hi', acc, avs, hl, hal, da, kp, ok, q'⟩
  have eH : Ext g.I H1 H' := ⟨kp, ok⟩
  have hE' := hE.mono eH
  obtain ⟨oa, h1, h2, h3, h4⟩ := id hE'.slots
  have IT := it0 g.I.own H' (fun p hp => Den.weak (fun a z => .inl z) _ _ (h4 p hp)) (fun a z => g.I.dom H' a ok (g.I.sub a z))
  by_cases hlt : i < ds.length
  · refine .inr ⟨(IT.1 i hlt).1, fun H2 => ∃ acc avs, H2 D = some (.lst avs) ∧ avs.length ≤ i + 1 ∧ DenA K (fun a => g.I.own a ∨ a = D) H2 avs acc ∧ Kp g.I.own H1 H2 ∧ g.I.ok H2 ∧ lcD gd td ed (wipeD (frz env) vs) (ds.drop (i + 1)) acc Qd,
      fun H2 h => ⟨ds.length - (i + 1), by omega, rfl, hlt, h⟩, fun x H2 y => ?_⟩
    obtain ⟨kn, d, hd2, dn⟩ := (IT.1 i hlt).2 x H2 y
    have e2 : Ext g.I H' H2 := .ofNew ok kn
    have q2 : lcD gd td ed (wipeD (frz env) vs) (d :: ds.drop (i + 1)) acc Qd := by
      rw [List.drop_eq_getElem_cons hlt] at q'
      have : d = ds[i] := by
        rw [List.getElem?_eq_getElem hlt] at hd2
        exact (Option.some.inj hd2).symm
      rw [this]; exact q'
    have held := (hE'.mono e2).hold dn (.inl hno)
    have wi2 : wipe (wipe σ vs) vs = wipe σ vs := wipe_idem vs
    refine (show gt x (wipe σ vs) H2 _ from ?_)
    have step := hw x (wipe σ vs) H2 _ (hg ⟨H1, hws⟩ (wipe σ vs) H2 _ x d _ (fun σ2 H3 => tt σ2 H3 fun b H4 => if b = true then te σ2 H4 fun y H5 => ∃ acc, H5 D = some (.lst acc) ∧ acc.length < sizeLine ∧
        (∃ acc' avs, (upd H5 D (.lst (acc ++ [y]))) D = some (.lst avs) ∧ avs.length ≤ i + 1 ∧ DenA K (fun a => g.I.own a ∨ a = D) (upd H5 D (.lst (acc ++ [y]))) avs acc' ∧ Kp g.I.own H1 (upd H5 D (.lst (acc ++ [y]))) ∧ g.I.ok (upd H5 D (.lst (acc ++ [y]))) ∧ lcD gd td ed (wipeD (frz env) vs) (ds.drop (i + 1)) acc' Qd)
        else ∃ acc avs, H4 D = some (.lst avs) ∧ avs.length ≤ i + 1 ∧ DenA K (fun a => g.I.own a ∨ a = D) H4 avs acc ∧ Kp g.I.own H1 H4 ∧ g.I.ok H4 ∧ lcD gd td ed (wipeD (frz env) vs) (ds.drop (i + 1)) acc Qd) held q2 fun σ3 H3 env3 hd3 e3 q3 => ?_)
    · rw [wi2] at step
      exact step
    · refine ht ⟨H1, hws⟩ σ3 H3 env3 _ _ hd3 XL.nox q3 fun c H4 e4 q4 => ?_
      have x4 : Ext g.I H' H4 := e2.trans (e3.trans e4)
      have l4 : H4 D = some (.lst avs) := x4.1 D _ nD hl
      have d4 : DenA K (fun a => g.I.own a ∨ a = D) H4 avs acc := DenA.keep (x4.1.weak fun a z => .inl z) _ _ da
      cases c with
      | false =>
        rw [if_neg Bool.false_ne_true] at q4 ⊢
        exact ⟨acc, avs, l4, by omega, d4, kp.trans x4.1, x4.2, q4⟩
      | true =>
        rw [if_pos rfl] at q4 ⊢
        refine he ⟨H1, hws⟩ σ3 H4 env3 _ _ (hd3.mono e4) XL.nox q4 fun yv yd H5 e5 dn5 ⟨nl, q5⟩ => ?_
        have l5 : H5 D = some (.lst avs) := e5.1 D _ nD l4
        have d5 : DenA K (fun a => g.I.own a ∨ a = D) H5 avs acc := DenA.keep (e5.1.weak fun a z => .inl z) _ _ d4
        have y5 : Den K (fun a => g.I.own a ∨ a = D) H5 yv yd := Den.apart (P := fun a => a = D) (fun a z => ⟨avs, by rw [z]; exact l5⟩) _ _ nl dn5
        have mu : Kp (fun a => g.I.own a ∨ a = D) H5 (upd H5 D (.lst (avs ++ [yv]))) := Kp.mut (.inr rfl)
        have k5 : Kp g.I.own H1 H5 := kp.trans (x4.1.trans e5.1)
        refine ⟨avs, l5, Nat.lt_of_le_of_lt hal (Nat.lt_of_lt_of_le hlt (Nat.le_trans hlen (by decide))), acc ++ [yd], avs ++ [yv], upd_same, by rw [List.length_append]; simpa using hal, DenA.keep mu _ _ (d5.app (.one y5)), fun a o n e => ?_, ?_, q5⟩
        · rw [upd_ne (ne_of_none e hD)]
          exact k5 a o n e
        · refine g.I.loc H5 _ (fun a f => upd_ne (fun z => ?_)) e5.2
          rw [z] at f
          exact g.I.dom H1 D e1.2 f hD
  · have ei : i = ds.length := by omega
    subst ei
    rw [List.drop_length] at q'
    exact .inl ⟨IT.2, k D avs acc H' hH (e1.trans eH) hl da q'⟩
section
variable {X : Cx} {g : Gx} {elt tg iter : Expr} {ifs : List Expr} {scope : Scope} {own : List (Str × Nat)} {pos : Pos} {gt : TG} {tid : TID} {gd : TGD} {td : TTD} {ed : TED}
theorem f_lc (hc : X.calm = true) (hN : X.N.Nodup) (hi : PID X g tg iter tid) (ok : BlkOk X.N X.env.scope scope own)
    (hg : ∀ (s : Shared) (H : Hp) (C : Addr) (cl : List (Str × Addr)) (fp : List Addr), PG (X.blk s H scope (compEnvC scope cl C X.env) fp) tg gt) (sg : SG X.K g.nox gt gd) (gw : GW gt (own.map (·.2)))
    (ht : ST X.K g.nox (wBT X scope ifs) td) (he : SE X.K g.nox (wBE X scope elt) ed) (hs : ∀ x, foldedSetIterable iter X.env x = pure x := by intro _; rfl) :
    PFD X g (.ListComp elt [⟨tg, iter, ifs, 0⟩] scope pos) (fLc tid gd td ed (own.map (·.2))) := fun b σ H env Qd Q hd xl hq k pins s J =>
  (pe_lc hc hN pi_w ok hg (fun _ _ _ _ _ => pt_blk) (fun _ _ _ _ _ => pe_blk) hs).run pins s σ H Q J (sf_lc hi sg gw ht he b σ H env Qd Q hd xl hq k)
end
end Dl

namespace Dl
open PySem PySem.Spec PyProof.Rows L2

def up (oa : Nat → Addr) (i : Nat) (p : Addr) : Nat → Addr := fun k => if k = i then p else oa k
theorem up_same {oa : Nat → Addr} {i : Nat} {p : Addr} : up oa i p i = p := if_pos rfl
theorem up_ne {oa : Nat → Addr} {i k : Nat} {p : Addr} (h : k ≠ i) : up oa i p k = oa k := if_neg h
section
variable {K : PySem.W.Frag} {I : HI} {b : B0} {σ : L2.St} {H H' : Hp} {env : DEnv}
theorem DenE.putNew (h : DenE K I b σ H env) {i : Nat} {p : Addr} {vs : List V} {ds : List D} (hi : i < env.length) (hp : H p = none) (e : Ext I H H') (hl : H' p = some (.lst vs)) (dn : DenA K (fun a => I.own a ∨ a = p) H' vs ds)
    (kp : noOwn (env.set i .no) = true ∨ noLstA ds = true) : DenE K I b (σ.set i (some (.ref p))) H' (env.set i (.own ds)) := by
  obtain ⟨oa, h1, h2, h3, h4⟩ := h.slots
  have np : ∀ k xs, env[k]? = some (Slot.own xs) → oa k ≠ p := fun k xs q z => by
    obtain ⟨⟨ws, _, e2, _⟩, _⟩ := h1 k xs q
    rw [z, hp] at e2
    cases e2
  have sub : ∀ a, AvOf I (env.set i (.own ds)) (up oa i p) a → AvOf I env oa a ∨ a = p := fun a z => by
    rcases z with z | ⟨j, xs, q, z⟩
    · exact .inl (.inl z)
    · rcases get_set q with ⟨ej, _⟩ | ⟨ne, q⟩
      · rw [ej, up_same] at z
        exact .inr z
      · rw [up_ne ne] at z
        exact .inl (.inr ⟨j, xs, q, z⟩)
  have kk : Kp (fun a => AvOf I env oa a ∨ a = p) H H' := e.1.weak fun a z => .inl (.inl z)
  have str : ∀ d v, Den K (AvOf I env oa) H v d → Den K (AvOf I (env.set i (.own ds)) (up oa i p)) H' v d := fun d v q => Den.weak sub _ _ (Den.keep kk _ _ (Den.fresh hp _ _ q))
  have strA : ∀ d v, DenA K (AvOf I env oa) H v d → DenA K (AvOf I (env.set i (.own ds)) (up oa i p)) H' v d := fun d v q => DenA.weak sub _ _ (DenA.keep kk _ _ (DenA.fresh hp _ _ q))
  refine ⟨by rw [List.length_set, List.length_set]; exact h.len, h.ext.trans e, up oa i p, fun j xs q => ?_, fun j k xs ys q1 q2 hjk => ?_, fun j d q => ?_, fun q hq => str _ _ (h4 q hq)⟩
  · rcases get_set q with ⟨ej, ed⟩ | ⟨ne, q⟩
    · subst ej
      have ed := Slot.own.inj ed
      subst ed
      refine ⟨⟨vs, ?_, ?_, ?_⟩, ?_, ?_⟩
      · rw [up_same, List.getElem?_set_self (by rw [h.len]; exact hi)]
      · rw [up_same]; exact hl
      · rcases kp with kp | kp
        · refine DenA.weak (fun a z => ?_) _ _ dn
          rcases z with z | ⟨k, ys, q2, z⟩
          · exact .inl z
          · rcases get_set q2 with ⟨ek, _⟩ | ⟨ne, q2⟩
            · rw [ek, up_same] at z
              exact .inr z
            · exact absurd (show (env.set j .no)[k]? = some (Slot.own ys) from by rw [List.getElem?_set_ne (Ne.symm ne)]; exact q2) (noOwn_get kp)
        · refine DenA.weak (fun a z => ?_) _ _ (DenA.apart (P := fun a => ∃ (k : Nat) (ys : List D), env[k]? = some (Slot.own ys) ∧ a = oa k) (fun a ⟨k, ys, q2, z⟩ => ?_) _ _ kp dn)
          · rcases z with z | ⟨k, ys, q2, z⟩
            · exact .inl (.inl z)
            · rcases get_set q2 with ⟨ek, _⟩ | ⟨ne, q2⟩
              · rw [ek, up_same] at z
                exact .inl (.inr z)
              · rw [up_ne ne] at z
                exact .inr ⟨k, ys, q2, z⟩
          · obtain ⟨⟨ws, _, e2, _⟩, _, e5⟩ := h1 k ys q2
            rw [z]
            exact ⟨ws, e.1 _ _ (fun z => e5 (I.sub _ z)) e2⟩
      · rw [up_same]; exact h.ext.back hp
      · rw [up_same]; exact fun z => I.dom H p h.ok z hp
    · obtain ⟨⟨ws, e1, e2, e3⟩, e4, e5⟩ := h1 j xs q
      refine ⟨⟨ws, ?_, ?_, strA _ _ e3⟩, ?_, ?_⟩
      · rw [up_ne ne, List.getElem?_set_ne (Ne.symm ne)]; exact e1
      · rw [up_ne ne]; exact e.1 _ _ (fun z => e5 (I.sub _ z)) e2
      · rw [up_ne ne]; exact e4
      · rw [up_ne ne]; exact e5
  · rcases get_set q1 with ⟨ej, _⟩ | ⟨nj, q1⟩ <;> rcases get_set q2 with ⟨ek, _⟩ | ⟨nk, q2⟩
    · rw [ej, ek]
    · rw [ej, up_same, up_ne nk] at hjk
      exact absurd hjk.symm (np k ys q2)
    · rw [ek, up_same, up_ne nj] at hjk
      exact absurd hjk (np j xs q1)
    · rw [up_ne nj, up_ne nk] at hjk
      exact h2 j k xs ys q1 q2 hjk
  · rcases get_set q with ⟨_, ed⟩ | ⟨ne, q⟩
    · cases ed
    · obtain ⟨v, e1, e2⟩ := h3 j d q
      exact ⟨v, by rw [List.getElem?_set_ne (Ne.symm ne)]; exact e1, str _ _ e2⟩
theorem DenE.wr (h : DenE K I b σ H env) {i : Nat} {xs : List D} (hi : env[i]? = some (.own xs)) : ∃ (a : Addr) (vs : List V) (S : Addr → Prop), σ[i]? = some (some (.ref a)) ∧ H a = some (.lst vs) ∧ DenA K S H vs xs ∧
    (∀ v d, d.noLst = true → Den K I.own H v d → Den K S H v d) ∧ ¬ I.own a ∧ (∀ vs' xs', DenA K S H vs' xs' → DenE K I b σ (upd H a (.lst vs')) (env.set i (.own xs'))) := by
  obtain ⟨oa, h1, h2, h3, h4⟩ := h.slots
  obtain ⟨⟨vs, e1, e2, e3⟩, e4, e5⟩ := h1 i xs hi
  refine ⟨oa i, vs, AvOf I env oa, e1, e2, e3, fun v d nl dn => ?_, fun z => e5 (I.sub _ z), fun vs' xs' dn => ?_⟩
  · refine Den.weak (fun a z => z) _ _ (Den.apart (P := fun a => ∃ (k : Nat) (ys : List D), env[k]? = some (Slot.own ys) ∧ a = oa k) (fun a ⟨k, ys, q2, z⟩ => ?_) _ _ nl dn)
    obtain ⟨⟨ws, _, q, _⟩, _⟩ := h1 k ys q2
    rw [z]; exact ⟨ws, q⟩
  · have hil : i < env.length := (List.getElem?_eq_some_iff.mp hi).1
    have same : ∀ a, AvOf I (env.set i (.own xs')) oa a → AvOf I env oa a := fun a z => z.imp id fun ⟨j, ys, q, z⟩ => by
      rcases get_set q with ⟨ej, _⟩ | ⟨ne, q⟩
      · exact ⟨i, xs, hi, by rw [z, ej]⟩
      · exact ⟨j, ys, q, z⟩
    have inA : AvOf I env oa (oa i) := .inr ⟨i, xs, hi, rfl⟩
    have mu : Kp (AvOf I env oa) H (upd H (oa i) (.lst vs')) := Kp.mut inA
    have ok' : I.ok (upd H (oa i) (.lst vs')) := I.loc H _ (fun a f => upd_ne (fun z => e5 (by rw [← z]; exact f))) h.ok
    refine ⟨by rw [List.length_set]; exact h.len, ⟨fun a o n q => ?_, ok'⟩, oa, fun j ys q => ?_, fun j k ys zs q1 q2 hjk => ?_, fun j d q => ?_, fun p hp => Den.weak same _ _ (Den.keep mu _ _ (h4 p hp))⟩
    · rw [upd_ne (ne_of_none q e4)]
      exact h.ext.1 a o n q
    · rcases get_set q with ⟨ej, ed⟩ | ⟨ne, q⟩
      · subst ej
        have ed := Slot.own.inj ed
        subst ed
        exact ⟨⟨vs', e1, upd_same, DenA.weak same _ _ (DenA.keep mu _ _ dn)⟩, e4, e5⟩
      · obtain ⟨⟨ws, q1, q2, q3⟩, q4⟩ := h1 j ys q
        exact ⟨⟨ws, q1, by rw [upd_ne (fun z => ne (h2 j i ys xs q hi z))]; exact q2, DenA.weak same _ _ (DenA.keep mu _ _ q3)⟩, q4⟩
    · have g1 : ∃ ys', env[j]? = some (Slot.own ys') := by
        rcases get_set q1 with ⟨ej, _⟩ | ⟨_, q1⟩
        · exact ⟨xs, by rw [ej]; exact hi⟩
        · exact ⟨ys, q1⟩
      have g2 : ∃ ys', env[k]? = some (Slot.own ys') := by
        rcases get_set q2 with ⟨ej, _⟩ | ⟨_, q2⟩
        · exact ⟨xs, by rw [ej]; exact hi⟩
        · exact ⟨zs, q2⟩
      obtain ⟨_, g1⟩ := g1
      obtain ⟨_, g2⟩ := g2
      exact h2 j k _ _ g1 g2 hjk
    · rcases get_set q with ⟨_, ed⟩ | ⟨ne, q⟩
      · cases ed
      · obtain ⟨v, q1, q2⟩ := h3 j d q
        exact ⟨v, q1, Den.weak same _ _ (Den.keep mu _ _ q2)⟩
end

section
variable {X : Cx} {g : Gx} {e e2 : Expr} {es : List Expr} {td ti tv : TED} {tf : TFD} {tas : TAD} {pos p p1 p2 pos' : Pos} {x : Str} {i : Nat}
theorem new_lstF {K : PySem.W.Frag} {I : HI} {H : Hp} {p : Addr} {vs : List V} {ds : List D} (hp : H p = none) (h : DenA K I.own H vs ds) : DenA K (fun a => I.own a ∨ a = p) (upd H p (.lst vs)) vs ds :=
  DenA.keep (Kp.new hp) _ _ (DenA.fresh hp _ _ h)
def fLst (ta : TAD) : TFD := fun env Q => ta env fun xs => xs.length ≤ sizeLine ∧ Q xs
theorem f_lst (h : PAD X g es tas) : PFD X g (.List es pos) (fLst tas) := fun b σ H env Qd Q hd xl hq k pins s J => (pe_lst pa_w).run pins s σ H Q J (h b σ H env _ _ hd xl hq fun vs ds H1 e1 dn ⟨z, q⟩ =>
    ⟨by rw [dn.len]; exact z, fun p hp => k p vs ds _ (e1.back hp) (e1.trans (.new e1.2 hp)) upd_same (new_lstF hp dn) q⟩)
def sNew (i : Nat) (tf : TFD) : TSD := fun Dd env => tf env fun ds => i < env.length ∧ (noOwn (env.set i .no) = true ∨ noLstA ds = true) ∧ Dd.nx (env.set i (.own ds))
theorem ds_new (hN : X.N.Nodup) (hi : X.N[i]? = some x) (hx : Loc X.env.scope x) (he : PFD X g e tf) (hs : swapsWith e (some (.Name x pos')) pos.line X.env = pure false := by rfl)
    (hf : X.fn x = true ∨ X.env.scope.names.lookup x = some .local := by first | exact .inl rfl | exact .inr rfl | assumption) : PSD X g (.Assign [.Name x pos'] e pos) (sNew i tf) :=
  psd_of (ps_set hN hi hx pe_w hs hf) fun b σ H env Dd E hd xl h el => he b σ H env _ _ hd xl h fun p vs ds H1 hp e1 hl dn ⟨z, kp, q⟩ => el.nx _ _ _ (hd.putNew z hp e1 hl dn kp) q
def frzAt (env : DEnv) (i : Nat) : DEnv := match env[i]? with
  | some (.own xs) => env.set i (.val (.lst xs))
  | _ => env
theorem DenE.frzAt {K : PySem.W.Frag} {I : HI} {b : B0} {σ : L2.St} {H : Hp} {env : DEnv} (h : DenE K I b σ H env) (i : Nat) : DenE K I b σ H (frzAt env i) := by
  unfold Dl.frzAt
  split
  · rename_i xs hi
    obtain ⟨oa, h1, h2, h3, h4⟩ := h.slots
    obtain ⟨⟨vs, e1, e2, e3⟩, e4, e5⟩ := h1 i xs hi
    have sub : ∀ a, AvOf I (env.set i (.val (.lst xs))) oa a → AvOf I env oa a := fun a z => z.imp id fun ⟨j, ys, q, z⟩ => by
      rcases get_set q with ⟨_, e⟩ | ⟨_, q⟩
      · cases e
      · exact ⟨j, ys, q, z⟩
    refine ⟨by rw [List.length_set]; exact h.len, h.ext, oa, fun j ys q => ?_, fun j k ys zs q1 q2 hjk => ?_, fun j d q => ?_, fun p hp => Den.weak sub _ _ (h4 p hp)⟩
    · rcases get_set q with ⟨_, e⟩ | ⟨ne, q⟩
      · cases e
      · obtain ⟨⟨ws, q1, q2, q3⟩, q4⟩ := h1 j ys q
        exact ⟨⟨ws, q1, q2, DenA.weak sub _ _ q3⟩, q4⟩
    · rcases get_set q1 with ⟨_, e⟩ | ⟨_, q1⟩
      · cases e
      · rcases get_set q2 with ⟨_, e⟩ | ⟨_, q2⟩
        · cases e
        · exact h2 j k ys zs q1 q2 hjk
    · rcases get_set q with ⟨ej, ed⟩ | ⟨ne, q⟩
      · subst ej
        have ed := Slot.val.inj ed
        subst ed
        refine ⟨_, e1, ?_⟩
        simp only [Den]
        refine ⟨_, vs, rfl, e2, fun z => ?_, DenA.weak sub _ _ e3⟩
        rcases z with z | ⟨k, ys, q2, z⟩
        · exact e5 (I.sub _ z)
        · rcases get_set q2 with ⟨_, e⟩ | ⟨ne, q2⟩
          · cases e
          · exact ne (h2 k j ys xs q2 hi z.symm)
      · obtain ⟨v, q1, q2⟩ := h3 j d q
        exact ⟨v, q1, Den.weak sub _ _ q2⟩
  · exact h
def sFrz (i : Nat) (ts : TSD) : TSD := fun Dd env => ts Dd (frzAt env i)
theorem ds_frz {st : Stmt} {ts : TSD} (i : Nat) (h : PSD X g st ts) : PSD X g st (sFrz i ts) := fun b σ H env Dd E hd xl ht el => h b σ H _ Dd E (hd.frzAt i) xl ht el
def sApp (i : Nat) (td : TED) : TSD := fun Dd env => ∃ xs, env[i]? = some (.own xs) ∧ td env fun d => d.noLst = true ∧ xs.length < sizeLine ∧ Dd.nx (env.set i (.own (xs ++ [d])))
theorem ds_app {apos cpos : Pos} (hN : X.N[i]? = some x) (hv : Vis X.env.scope x) (he : PED X g e td) (hd1 : (x == ("__debug__" : Str)) = false := by decide) (hcd : (x == ("__classdict__" : Str)) = false := by decide)
    (hbase : attributeBase (.Name x p1) "append" X.env (eval (.Name x p1) X.env) = eval (.Name x p1) X.env := by rfl)
    (hfew : ((backTo cpos (starEach (e :: []) X.env)).all (fun x => !x.1) && (backToKw cpos (keywordEach [] X.env)).all (fun x => x.1.isSome)
      && decide ((e :: []).length + ([] : List Keyword).length + (if ([] : List Keyword).isEmpty then 0 else 1) < 30)) = true := by rfl)
    (hline : (apos.endLine == cpos.line) = true := by rfl) (hs : starEach (e :: []) X.env = (false, eval e X.env) :: starEach [] X.env := by rfl) (hplain : (backTo cpos (starEach [] X.env)).any (·.1) = false := by rfl)
    (hsw : swapsWith (.Call (.Attribute (.Name x p1) "append" apos) [e] [] cpos) none pos.line X.env = pure false := by rfl) :
    PSD X g (.Expr (.Call (.Attribute (.Name x p1) "append" apos) [e] [] cpos) pos) (sApp i td) :=
  psd_of (ps_expr (pe_bm PySem.F.plainAttrs_list PySem.F.slot_list_append PySem.F.type_list_append mt_append (pe_var hN hv hd1 hcd) (pa_cons pe_w pa_nil hs) hbase hfew hline hs hplain) hsw) fun b σ H env Dd E hd xl h el => by
    obtain ⟨xs, hx, h⟩ := h
    obtain ⟨a, vs, S, q1, q2, _⟩ := hd.wr hx
    refine ⟨.ref a, q1, .inl ⟨rfl, vs, SqL.of q2⟩, he b σ H env _ _ hd xl h fun v d H1 e1 dn ⟨nl, hz, q⟩ => ?_⟩
    obtain ⟨a', vs', S', w1, w2, w3, w4, w5, w6⟩ := (hd.mono e1).wr hx
    rw [q1] at w1
    cases w1
    exact ⟨a, vs', v, rfl, rfl, w2, by rw [w3.len]; exact hz, el.nx _ _ _ (w6 _ _ (w3.app (.one (w4 v d nl dn)))) q⟩
end
end Dl

namespace Dl
open PySem PySem.Spec PyProof.Rows L2

def startD (N : List Str) (ds : List D) : DEnv := ds.map Slot.val ++ List.replicate (N.length - ds.length) Slot.no
def gOf (I : HI) (Ed : Exc → Prop) (E : XK) : Gx := ⟨I, fun _ x => Ed x, fun cls d _ H => E cls d H⟩
theorem startE {K : PySem.W.Frag} {I : HI} {N : List Str} {H : Hp} {vs : List V} {ds : List D} (ok : I.ok H) (dn : DenA K I.own H vs ds) : DenE K I ⟨H, []⟩ (L2.start N vs) H (startD N ds) := by
  have no : ∀ {i : Nat} {xs : List D}, (startD N ds)[i]? ≠ some (Slot.own xs) := fun {i xs} h => by
    unfold startD at h
    rw [List.getElem?_append] at h
    split at h
    · rw [List.getElem?_map] at h
      cases e : ds[i]? with
      | none => rw [e] at h; cases h
      | some d => rw [e] at h; cases h
    · rw [List.getElem?_replicate] at h
      split at h <;> cases h
  refine ⟨?_, .refl ok, fun _ => 0, fun i xs e => absurd e no, fun i j xs ys e => absurd e no, fun i d e => ?_, fun p hp => by cases hp⟩
  · unfold L2.start startD
    rw [List.length_append, List.length_append, List.length_map, List.length_map, List.length_replicate, List.length_replicate, dn.len]
  · unfold startD at e
    rw [List.getElem?_append] at e
    split at e
    · rename_i hl
      rw [List.length_map] at hl
      rw [List.getElem?_map] at e
      have hd : ds[i]? = some d := by
        cases q : ds[i]? with
        | none => rw [q] at e; cases e
        | some d' =>
          rw [q] at e
          have := Slot.val.inj (Option.some.inj e)
          rw [this]
      obtain ⟨v, q1, q2⟩ := dn.get hd
      refine ⟨v, ?_, Den.weak (fun a z => z.elim id fun ⟨j, xs, e, _⟩ => absurd e no) _ _ q2⟩
      unfold L2.start
      rw [List.getElem?_append_left (by rw [List.length_map, dn.len]; exact hl), List.getElem?_map, q1]
      rfl
    · rw [List.getElem?_replicate] at e
      split at e <;> cases e
section
variable {P : Program} {w : World} {K : PySem.W.Frag} {mg : Str → Option Value} {base : Heap}
abbrev cxD (P : Program) (w : World) (K : PySem.W.Frag) (mg : Str → Option Value) (base : Heap) (N : List Str) (qual : Str) (scope : Scope) (f : Addr) (cd : Value) (A : Around) (outer : List Env) (s : Shared) (H : Hp) (E : XK) : Cx :=
  cxOf (L2.CX P w) P w K mg base N qual scope f cd A outer s H E
theorem fn_D {x qual : Str} {params : Arguments} {body : List Stmt} {scope : Scope} {dvs : List V} {kws : List (Str × V)} {f : Addr} {fd : FuncData} {N ps : List Str} {k : Nat} {I : HI} {C : Ct} {tsd : (DEnv → Exc → Prop) → TSD}
    (F : FunD K x qual params body scope dvs kws f fd) (S : FnScope N ps scope)
    (hbody : ∀ (cdv : Value) (A : Around) (outer : List Env) (s : Shared) (H : Hp) (E : XK) (Ed : Exc → Prop), Room k (A.deeper (envOfC qual scope s.heap.objs.size f cdv)) →
      Takes (cxD P w K mg base N qual scope f cdv A outer s H E) (gOf I Ed E).W → PSsD (cxD P w K mg base N qual scope f cdv A outer s H E) (gOf I Ed E) body (tsd (gOf I Ed E).Ed))
    (hC : ∀ ds Qd Ed, C ds Qd Ed → ds.length = ps.length → tsd (fun _ x => Ed x) ⟨fun _ => Qd .non, Qd, fun _ => False, fun _ => False⟩ (startD N ds)) :
    FnOk P w K mg base (L2.CX P w) (k + 1) f fd ps (spOf K I ps.length C) := by
  refine F.ok S (fun vs H Q E ⟨ds, Qd, Ed, hl, dn, _⟩ => by rw [dn.len, hl]) (fun cdv A outer s H vs Q E hr ⟨ds, Qd, Ed, hl, dn, ok, hc, kq, ke⟩ => ?_)
  refine ⟨_, pss_w, ?_⟩
  have tk : Takes (cxD P w K mg base N qual scope f cdv A outer s H E) (gOf I Ed E).W := takes_of rfl rfl rfl rfl
  refine hbody cdv A outer s H E Ed hr tk ⟨H, []⟩ (L2.start N vs) H (startD N ds) _ _ (startE ok dn) ?_ (hC ds Qd Ed hc hl) ⟨fun σ' H' env' hd' q => ?_, fun v d H' e dn' q => kq v d H' e dn' q, fun _ _ _ _ q => q.elim, fun _ _ _ _ q => q.elim⟩
  · exact fun σ' H' env' x d H'' hd' e xd q => ke x d H'' (hd'.ext.trans e) xd q
  · exact kq .non .non H' hd'.ext (by simp only [Den]) q
end

def spExc (C : Addr) (fl : Str) : Sp := fun vs H Q _ => ∃ a v, vs = [.ref a, v] ∧ H a = some (exo a C none) ∧ ∀ dx, H dx = none → dx ≠ a → Q .non (upd (upd H dx (exd dx [(fl, v)])) a (exo a C (some dx)))
structure ErrC (K : PySem.W.Frag) (C : Addr) (fl : Str) : Prop where
  ox : OexC K C
  nf : PySem.W.findIn K (.ref C) fl = some none
section
variable {X : Cx} {g : Gx} {e : Expr} {td : TED} {pos p cpos : Pos} {x fl : Str} {C fI : Addr} {fd : FuncData} {ps : List Str} {k : Nat}
theorem init_ok {P : Program} {w : World} {K : PySem.W.Frag} {mg : Str → Option Value} {base : Heap} {qual : Str} {params : Arguments} {scope : Scope} {p1 p2 p3 p4 : Pos} {CX : CXT} (T : ErrC K C fl) (hfl : ("self" : Str) ≠ fl)
    (hdb : (fl == ("__debug__" : Str)) = false) (hcd : (fl == ("__classdict__" : Str)) = false) (v1 : Vis scope "self") (v2 : Vis scope fl)
    (F : FunD K "__init__" qual params [.Assign [.Attribute (.Name "self" p1) fl p2] (.Name fl p3) p4] scope [] [] fI fd) (S : FnScope ["self", fl] ["self", fl] scope)
    (hs : ∀ X : Cx, swapsWith (.Name fl p3) (some (.Attribute (.Name "self" p1) fl p2)) p4.line X.env = pure false) : FnOk P w K mg base CX 1 fI fd ["self", fl] (spExc C fl) := by
  refine F.ok S (fun vs H Q E ⟨a, v, e, _⟩ => by rw [e]; rfl) (fun cdv A outer s H vs Q E hr ⟨a, v, e, hH, q⟩ => ?_)
  subst e
  refine ⟨_, PSs.nox (pss_one (ps_ost (pe_var (i := 0) rfl v1) (pe_var (i := 1) rfl v2 hdb hcd) (hs _))), ?_⟩
  exact ⟨v, rfl, .ref a, rfl, a, C, rfl, T.ox, T.nf, .inl ⟨hH, fun dx h1 h2 => q dx h1 h2⟩⟩
def sRaise (C : Addr) (fl : Str) (Ed : DEnv → Exc → Prop) (td : TED) : TSD := fun _ env => td env fun d => Ed env ⟨C, some [(fl, d)]⟩
theorem ds_raise {CX : CXT} (hc : X.calm = true) (T : ErrC X.K C fl) (iC : PySem.W.findIn X.K (.ref C) "__init__" = some (some (.ref fI))) (tI : PySem.W.typeIn X.K (.ref fI) = some (.type "function"))
    (F1 : FnOk X.prog X.w X.K X.mg X.base CX k fI fd ["self", fl] (spExc C fl)) (hx : Passes CX X (fun _ _ _ => False)) (hr : Room (k + 1) X.A) (hb : Binds X.K fd ["self", fl] []) (hg : Gl X x) (hm : X.mg x = some (.ref C)) (tk : Takes X g.W) (ha : PED X g e td)
    (hdb : (x == ("__debug__" : Str)) = false := by decide) (he : starEach (e :: []) X.env = (false, eval e X.env) :: starEach [] X.env := by rfl) (hpl : (backTo cpos (starEach [] X.env)).any (·.1) = false := by rfl) :
    PSD X g (.Raise (some (.Call (.Name x p) [e] [] cpos)) none pos) (sRaise C fl g.Ed td) :=
  psd_of (ps_raise hc tk (pmk_oex T.ox iC tI F1 hr hb .nil hx hg hm (pa_cons pe_w pa_nil he) hdb he hpl)) fun b σ H env Dd E hd xl h el => by
    refine ha b σ H env _ _ hd xl h fun v d H1 e1 dn q => ?_
    refine ⟨(by decide : 1 ≤ 1000), fun a hA => ⟨a, v, rfl, upd_same, fun dx h1 h2 => ⟨rfl, dx, [(fl, v)], upd_same, ?_, ?_, ?_⟩⟩⟩
    · rw [upd_ne h2, upd_same]
    · rw [upd_ne h2] at h1; exact h1
    · have hdx : H1 dx = none := by rw [upd_ne h2] at h1; exact h1
      have ee : upd (del (upd (upd (upd H1 a (exo a C none)) dx (exd dx [(fl, v)])) a (exo a C (some dx))) a) dx (.xd [(fl, v)]) = upd H1 dx (.xd [(fl, v)]) := by
        funext c
        unfold upd del
        by_cases c1 : c = dx
        · rw [if_pos c1, if_pos c1]
        · rw [if_neg c1, if_neg c1]
          by_cases c2 : c = a
          · rw [if_pos c2, c2, hA]
          · rw [if_neg c2]
            show (if c = a then some (exo a C (some dx)) else if c = dx then some (exd dx [(fl, v)]) else if c = a then some (exo a C none) else H1 c) = H1 c
            rw [if_neg c2, if_neg c1, if_neg c2]
      rw [ee]
      have e2 : Ext g.I H1 (upd H1 dx (.xd [(fl, v)])) := .new e1.2 hdx
      refine xl σ H env ⟨C, some [(fl, d)]⟩ (some dx) _ hd (e1.trans e2) ⟨dx, [v], rfl, upd_same, ?_⟩ q
      exact .one (Den.keep e2.1 _ _ dn)
end
end Dl

namespace PySem
open Sem (wp)
open PyProof.Rows
theorem meets_enum1B {v : Value} {o : Obj} {H : Heap → Prop} (B : Begins v o H) :
    Meets (Builtin.«enumerate.__new__» ⟨[.type "enumerate", v], []⟩) (fun _ R s => H s.heap ∧
      R (.ok (.ret (.ref (s.heap.push o).objs.size))) { s with heap := (s.heap.push o).push { cls := .type "enumerate", data := .fields #[.none, .bool false, .ref s.heap.objs.size, rawInt 0, .none, .none] } }) :=
  .of_wp fun prog w A R s h => by
    obtain ⟨hp, g, d, tk, os⟩ := s; obtain ⟨h1, h⟩ := h
    have hsub := sub_enumerate
    have q1 : ∀ {A' : Around} {E : Value → Shared → Prop} {Q : Value → Shared → Prop}, Q (.ref hp.objs.size) ⟨hp.push o, g, d, tk, os⟩ → wpAny (model prog w) A' (pyIter v) Q E ⟨hp, g, d, tk, os⟩ :=
      fun q => B.iter prog w _ _ ⟨hp, g, d, tk, os⟩ _ h1 q
    wp_walk using q1
    refine wpAny_stack_any fun st => wpAny_pure ?_
    split
    · rename_i c _ _ _ _ _
      cases (c == Value.type "enumerate")
      · wp_walk using q1
        exact ⟨_, rfl, h⟩
      · wp_walk using q1
        exact ⟨_, rfl, h⟩
    · wp_walk using q1
      exact ⟨_, rfl, h⟩
section
variable {prog : Program} {w : World} {A : Around} {E : Value → Shared → Prop} {s : Shared}
theorem pyNext_enumT_end {e it t : Addr} {i : Nat} {items : Array Value} {k : Int} {old : Value} {Q : Option Value → Shared → Prop} (hh : A.handled = none)
    (he : IsEnum s.heap e it k old) (hit : s.heap.IsTupleIter it t i) (hl : s.heap.IsTuple t items) (hx : items[i]? = none)
    (hQ : ∀ h', Heap.ExtBut it s.heap h' → Q none { s with heap := h' }) : wpAny (model prog w) A (pyNext (.ref e)) Q E s := by
  have hT : s.TypeIs (.ref e) "enumerate" := ⟨_, he, rfl⟩
  unfold pyNext
  refine wpAny_bind (wpAny_attempt (wpAny_callSpecial?_slot (name := Str.ofString "__next__") hT F.slot_enumerate_next
    (wpAny_call_entry F.slot_enumerate_next hT F.entry_enumerate_next ?_ (F.args_enumerate_next_1 _))))
  show wpAny _ _ (field (.ref e) 2 >>= _) _ _ _
  refine wpAny_bind (wpAny_field he rfl (x := .ref it) rfl ?_)
  refine wpAny_bind (wpAny_nextOf_tuple_end hh hit hl hx fun h' x he' hx' => ?_)
  obtain ⟨o, ho, hc⟩ := hx'
  refine wpAny_bind (wpAny_isInstance (T := "StopIteration") (b := true) ⟨o, ho, hc⟩ isSubtype_stop ?_)
  exact wpAny_pure (hQ _ he')
theorem enum1_begins {v : Value} {o : Obj} {H : Heap → Prop} {Q : Value → Shared → Prop} (B : Begins v o H) (h1 : H s.heap)
    (h : ∀ h', IsEnum h' (s.heap.objs.size + 1) s.heap.objs.size 0 .none → h'.get? s.heap.objs.size = some o → h'.objs.size = s.heap.objs.size + 2 →
      (∀ b o, s.heap.get? b = some o → h'.get? b = some o) → Q (.ref (s.heap.objs.size + 1)) { s with heap := h' }) :
    wpAny (model prog w) A (call (.type "enumerate") [v]) Q E s := by
  refine callType_new F.called_enumerate (by decide) (F.typeCall_enumerate_1 _) (F.newCall_enumerate_1 _) (fun obj => F.args_object_init_2 obj _) F.entry_enumerate_new
    (meets_enum1B B) ⟨h1, ?_⟩
  have hz : (s.heap.push o).objs.size = s.heap.objs.size + 1 := Heap.size_push ..
  show _ ∧ _
  rw [hz]
  have he : IsEnum ((s.heap.push o).push { cls := .type "enumerate", data := .fields #[.none, .bool false, .ref s.heap.objs.size, rawInt 0, .none, .none] }) (s.heap.objs.size + 1) s.heap.objs.size 0 .none := by
    have := Heap.get?_push_size (s.heap.push o) (o := { cls := .type "enumerate", data := .fields #[.none, .bool false, .ref s.heap.objs.size, rawInt 0, .none, .none] }) rfl
    rw [hz] at this; exact this
  refine ⟨⟨_, he, rfl⟩, h _ he (Heap.get?_push_of_some _ (Heap.get?_push_size _ B.free)) (by rw [Heap.size_push, hz]) fun b o x => Heap.get?_push_of_some _ (Heap.get?_push_of_some _ x)⟩
end
end PySem
namespace Dl
open PySem PySem.Spec PyProof.Rows L2
def IteT (K : PySem.W.Frag) (a : Addr) : It :=
  ⟨fun i H => ∃ (xs : List V) (x : V), SqT K H a xs ∧ xs[i]? = some x, fun i H v H' => ∃ T x, v = .ref T ∧ H T = none ∧ H' = upd H T (.tup [.int (i : Nat), x]) ∧ ∀ xs, SqT K H a xs → xs[i]? = some x, fun i H => ∃ xs : List V, SqT K H a xs ∧ xs.length ≤ i⟩
theorem turn_enumT {P : Program} {w : World} {K : PySem.W.Frag} {elts : List Expr} {kk : Nat} {tpos : Pos} (a e it : Addr) :
    Turn P w K (.Tuple elts kk tpos) (IteT K a) [e, it] e (fun i h => (∃ old, IsEnum h e it ((i : Nat) : Int) old) ∧ h.IsTupleIter it a i ∧ e ≠ it ∧ a ≠ it ∧ a ≠ e) where
  mem := by simp
  obj := fun i h st b hb => by
    obtain ⟨⟨old, he⟩, ⟨o, ho, hc, hd⟩, _⟩ := st
    have e' : b = e ∨ b = it := by simpa using hb
    rcases e' with z | z
    · rw [z]; exact ⟨_, he, fun v q => nomatch q⟩
    · rw [z]; exact ⟨o, ho, fun v q => by rw [hd] at q; cases q⟩
  keep := fun i h h' st k => let ⟨⟨old, he⟩, hi, hne⟩ := st; ⟨⟨old, k e (by simp) _ he⟩, hi.at fun o q => k it (by simp) o q, hne⟩
  item := by
    intro X hP hw hK hc i pins s σ H E I hf st hg
    subst hP hw hK
    obtain ⟨⟨old, he⟩, hit, hne, na, nb⟩ := st
    obtain ⟨xs, x, hq, hx⟩ := hg
    obtain ⟨its, rv, p, hz⟩ := I.tuple hq
    obtain ⟨u, hu, ru⟩ := rv.get hx
    have hel : e < s.heap.objs.size := Heap.lt_size he
    have hil : it < s.heap.objs.size := by obtain ⟨_, q, _⟩ := hit; exact Heap.lt_size q
    have hlt : i < its.toArray.size := by
      have := (List.getElem?_eq_some_iff.mp hu).1
      simpa using this
    refine wpAny_pyNext_enum_itemD (Draws.tuple (A := X.A.in1) (I.ok.hd hc) it a na its.toArray) he ⟨hit, p⟩ hlt hne (by simp only [List.mem_cons, List.not_mem_nil, or_false, not_or]; exact ⟨hne, Ne.symm nb⟩) fun y h' tk hy ho hit' hT hsz hk => ?_
    have hy' : y = u := by
      have : its[i]? = some y := by simpa using hy
      rw [hu] at this
      exact (Option.some.inj this).symm
    subst hy'
    refine ⟨_, rfl, wpAny_letOwnedTupleGo_enum (s := { s with heap := h', toks := tk + 1 }) ho fun h'' he' sb => ?_⟩
    have hT2 : h''.get? s.heap.objs.size = some { cls := .type "tuple", data := .seq #[.int i tk, y] } := (sb.2 _ (Nat.ne_of_gt hel)).trans hT
    have new : ObjOk X.prog X.w (upd H s.heap.objs.size (.tup [.int (i : Nat), x])) h'' s.heap.objs.size (.tup [.int (i : Nat), x]) :=
      ⟨by show 2 ≤ sizeLine; decide, [.int i tk, y], .cons ⟨_, rfl⟩ (.cons ru .nil), ⟨_, hT2, rfl, _, rfl⟩⟩
    have I1 : Inv X pins σ (upd H s.heap.objs.size (.tup [.int (i : Nat), x])) { s with heap := h'', toks := tk + 1 } :=
      I.turnedNew (ch := [e, it]) (fun b ob hb q => (sb.2 b (fun z => hb (by simp [z]))).trans (hk b ob (fun z => hb (by simp [z])) (fun z => hb (by simp [z])) q)) hf (Nat.le_refl _) new
    refine ⟨.ref s.heap.objs.size, _, I1, rfl, ⟨_, x, rfl, I.hok.fresh (Nat.le_refl _), rfl, fun ys hy => by rw [I.tuple_inj hy hq]; exact hx⟩, ⟨⟨y, ?_⟩, hit'.1.at fun o q => (sb.2 it (Ne.symm hne)).trans q, hne, na, nb⟩, fun b hb => ?_⟩
    · have e1 : ((i + 1 : Nat) : Int) = (i : Int) + 1 := by omega
      rw [e1]; exact he'
    · have hb' : b < s.heap.objs.size := by
        have e' : b = e ∨ b = it := by simpa using hb
        rcases e' with z | z
        · rw [z]; exact hel
        · rw [z]; exact hil
      rw [upd_ne (Nat.ne_of_lt hb')]
      exact (hf b hb).1
  done := by
    intro X hP hw hK hc i pins s σ H E I hf st hg
    subst hP hw hK
    obtain ⟨⟨old, he⟩, hit, hne, na, nb⟩ := st
    obtain ⟨xs, hq, hx⟩ := hg
    obtain ⟨its, rv, p, hz⟩ := I.tuple hq
    obtain ⟨f0, f1, f2, f3, f4, f5⟩ := hf it (by simp)
    have hl := rv.length
    exact pyNext_enumT_end (I.ok.hd hc) he hit p (by simp; omega) fun h' eb => ⟨rfl, I.turned (t' := s.toks) (fun b o hb q => eb b o hb q) f0 f1 f3 f4 f5⟩
  self := fun A i s Q E st h => let ⟨⟨_, he⟩, _⟩ := st; wpAny_pyIter_enum he h
def iEnumA (K : PySem.W.Frag) (ta : L2.TA) : TI := fun σ H R => ta σ H fun vs H1 => ∃ a xs, vs = [.ref a] ∧ ((SqL K H1 a xs ∧ R (Ite K a) H1) ∨ (SqT K H1 a xs ∧ R (IteT K a) H1))
theorem pi_enumA {X : Cx} {e : Expr} {ta : L2.TA} {p pos tpos : Pos} {elts : List Expr} {kk : Nat} (hg : Gl X "enumerate") (hm : X.mg "enumerate" = none) (ha : PA X [e] ta) (hs : starEach [e] X.env = [(false, eval e X.env)] := by rfl) :
    PI X (.Tuple elts kk tpos) (.Call (.Name "enumerate" p) [e] [] pos) (iEnumA X.K ta) := by
  refine ⟨fun pins s σ H R I h => ?_⟩
  refine Call_ (ld_blt I hg hm boot_enumerate (PyProof.Rows.callWith_type1 (thn (ha.run pos pins s σ H _ I h) fun us s1 ⟨vs, H1, I1, r1, q1⟩ => ?_) hs rfl))
  obtain ⟨a, xs, ex, q⟩ := q1
  subst ex
  cases r1 with
  | cons r rr =>
    cases rr
    cases r
    have fin : ∀ b ∈ [s1.heap.objs.size + 1, s1.heap.objs.size], FpOk X pins H1 b := fun b hb => by
      have e' : b = s1.heap.objs.size + 1 ∨ b = s1.heap.objs.size := by simpa using hb
      have hle : s1.heap.objs.size ≤ b := by
        rcases e' with z | z
        · rw [z]; exact Nat.le_add_right _ _
        · rw [z]; exact Nat.le_refl _
      exact I1.fpOk hle (I1.hok.fresh hle)
    rcases q with ⟨hq, q⟩ | ⟨hq, q⟩
    · obtain ⟨its, rv, p', hz⟩ := I1.list hq
      refine call_enumerate_list p'.isList fun h' he hit hsz hk => wpAny_pyIter_enum he ?_
      have I2 : Inv X pins σ H1 { s1 with heap := h' } := I1.kept (t' := s1.toks) hk
      exact ⟨s1.heap.objs.size + 1, [s1.heap.objs.size + 1, s1.heap.objs.size], _, _, H1, rfl, I2, turn_enum a (s1.heap.objs.size + 1) s1.heap.objs.size, ⟨⟨.none, he⟩, hit, Nat.succ_ne_self _⟩, fin, q⟩
    · obtain ⟨its, rv, p', hz⟩ := I1.tuple hq
      have pt : s1.heap.IsTuple a its.toArray := p'
      have al : a < s1.heap.objs.size := by obtain ⟨_, q, _⟩ := pt; exact Heap.lt_size q
      refine enum1_begins (begins_tuple a its.toArray) pt fun h' he hit hsz hk => wpAny_pyIter_enum he ?_
      have I2 : Inv X pins σ H1 { s1 with heap := h' } := I1.kept (t' := s1.toks) hk
      exact ⟨s1.heap.objs.size + 1, [s1.heap.objs.size + 1, s1.heap.objs.size], _, _, H1, rfl, I2, turn_enumT a (s1.heap.objs.size + 1) s1.heap.objs.size, ⟨⟨.none, he⟩, ⟨_, hit, rfl, rfl⟩, Nat.succ_ne_self _, Nat.ne_of_lt al, Nat.ne_of_lt (Nat.lt_succ_of_lt al)⟩, fin, q⟩
def enumD : Nat → List D → List D
  | _, [] => []
  | n, d :: ds => .tup [.int (n : Nat), d] :: enumD (n + 1) ds
theorem enumD_len : ∀ {n : Nat} {ds : List D}, (enumD n ds).length = ds.length
  | _, [] => rfl
  | n, d :: ds => congrArg Nat.succ enumD_len
theorem enumD_get : ∀ {n i : Nat} {ds : List D} {d : D}, ds[i]? = some d → (enumD n ds)[i]? = some (.tup [.int ((n + i : Nat) : Int), d])
  | n, i, [], d, h => by simp at h
  | n, 0, e :: ds, d, h => by
    have : e = d := by simpa using h
    subst this
    rfl
  | n, i + 1, e :: ds, d, h => by
    have ih := enumD_get (n := n + 1) (i := i) (ds := ds) (d := d) (by simpa using h)
    have e1 : n + 1 + i = n + (i + 1) := by omega
    rw [e1] at ih
    exact ih
theorem pair_den {K : PySem.W.Frag} {Av : Addr → Prop} {H : Hp} {T : Addr} {x y : V} {dx dy : D} (hT : H T = none) (nT : ¬ Av T) (hx : Den K Av H x dx) (hy : Den K Av H y dy) : Den K Av (upd H T (.tup [x, y])) (.ref T) (.tup [dx, dy]) := by
  have kk : Kp Av H (upd H T (.tup [x, y])) := Kp.new hT
  simp only [Den]
  refine ⟨T, [x, y], rfl, SqT.of upd_same, .inl ⟨nT, upd_same⟩, ?_⟩
  simp only [DenA]
  exact ⟨x, [y], rfl, Den.keep kk _ _ hx, y, [], rfl, Den.keep kk _ _ hy, rfl⟩
theorem itd_enumL {K : PySem.W.Frag} {a : Addr} {ds : List D} : ItD K (Ite K a) [(.ref a, .lst ds)] (enumD 0 ds) := fun Av H hw hav => by
  have := hw _ List.mem_cons_self
  simp only [Den] at this
  obtain ⟨a', vs, e, s, n, r⟩ := this
  cases e
  refine ⟨fun i hi => ?_, vs, SqL.of s, by rw [r.len, enumD_len]; exact Nat.le_refl _⟩
  rw [enumD_len] at hi
  obtain ⟨v, q1, q2⟩ := r.get (List.getElem?_eq_getElem hi)
  refine ⟨⟨vs, v, SqL.of s, q1⟩, fun x H' ⟨T, y, e1, hT, e2, hy⟩ => ?_⟩
  subst e1 e2
  have z := hy vs (SqL.of s)
  rw [q1] at z
  cases z
  refine ⟨Kp.new hT, _, enumD_get (List.getElem?_eq_getElem hi), pair_den hT (fun z => hav T z hT) ?_ q2⟩
  simp only [Den, Nat.zero_add]
theorem itd_enumT {K : PySem.W.Frag} {a : Addr} {ds : List D} : ItD K (IteT K a) [(.ref a, .tup ds)] (enumD 0 ds) := fun Av H hw hav => by
  have := hw _ List.mem_cons_self
  simp only [Den] at this
  obtain ⟨a', vs, e, s, n, r⟩ := this
  cases e
  refine ⟨fun i hi => ?_, vs, s, by rw [r.len, enumD_len]; exact Nat.le_refl _⟩
  rw [enumD_len] at hi
  obtain ⟨v, q1, q2⟩ := r.get (List.getElem?_eq_getElem hi)
  refine ⟨⟨vs, v, s, q1⟩, fun x H' ⟨T, y, e1, hT, e2, hy⟩ => ?_⟩
  subst e1 e2
  have z := hy vs s
  rw [q1] at z
  cases z
  refine ⟨Kp.new hT, _, enumD_get (List.getElem?_eq_getElem hi), pair_den hT (fun z => hav T z hT) ?_ q2⟩
  simp only [Den, Nat.zero_add]
def idEnum (td : TED) : TID := fun env Q => td env fun d => (noOwn env = true ∨ d.noLst = true) ∧ ∃ ds, seqOf d = some ds ∧ Q (enumD 0 ds)
def idEnumV (i : Nat) : TID := fun env Q => ∃ d ds, env[i]? = some (.val d) ∧ seqOf d = some ds ∧ Q (enumD 0 ds)
theorem si_enum {K : PySem.W.Frag} {b : B0} {σ : L2.St} {H : Hp} {env : DEnv} {I : HI} {R : It → Hp → Prop} {v : V} {d : D} {ds : List D} (hd : DenE K I ⟨b.H0, (v, d) :: b.hs⟩ σ H env) (hs : seqOf d = some ds)
    (k : ∀ J hw, DenE K I ⟨b.H0, hw ++ b.hs⟩ σ H env → ItD K J hw (enumD 0 ds) → R J H) : ∃ a xs, [v] = [.ref a] ∧ ((SqL K H a xs ∧ R (Ite K a) H) ∨ (SqT K H a xs ∧ R (IteT K a) H)) := by
  obtain ⟨oa, h1, h2, h3, h4⟩ := hd.slots
  have dn := h4 _ List.mem_cons_self
  cases d <;> simp only [seqOf, Option.some.injEq] at hs <;> simp only [Den] at dn
  case tup xs =>
    subst hs
    obtain ⟨a, vs, rfl, s, n, r⟩ := dn
    exact ⟨a, vs, rfl, .inr ⟨s, k _ _ hd itd_enumT⟩⟩
  case lst xs =>
    subst hs
    obtain ⟨a, vs, rfl, s, n, r⟩ := dn
    exact ⟨a, vs, rfl, .inl ⟨SqL.of s, k _ _ hd itd_enumL⟩⟩
  all_goals cases hs
section
variable {X : Cx} {g : Gx} {e : Expr} {p pos tpos : Pos} {elts : List Expr} {kk : Nat} {td : TED}
theorem di_enum (hg : Gl X "enumerate") (hm : X.mg "enumerate" = none) (he : PED X g e td) (hs : starEach [e] X.env = [(false, eval e X.env)] := by rfl) : PID X g (.Tuple elts kk tpos) (.Call (.Name "enumerate" p) [e] [] pos) (idEnum td) :=
  pid_of (pi_enumA hg hm (pa_cons pe_w pa_nil hs) hs) fun b σ H env Qd R hd xl ht k =>
    he b σ H env _ _ hd xl ht fun v d H1 e1 dn ⟨kp, ds, hs, q⟩ => si_enum ((hd.mono e1).hold dn kp) hs fun J hw hd2 it => k J H1 hw _ hd2 e1 it q
theorem di_enumV (i : Nat) {x : Str} {p2 : Pos} (hg : Gl X "enumerate") (hm : X.mg "enumerate" = none) (hN : X.N[i]? = some x := by rfl) (hv : Vis X.env.scope x := by first | exact Or.inl rfl | exact Or.inr (Or.inl rfl) | exact Or.inr (Or.inr rfl))
    (hd : (x == ("__debug__" : Str)) = false := by decide) (hcd : (x == ("__classdict__" : Str)) = false := by decide) (hs : starEach [Expr.Name x p2] X.env = [(false, eval (.Name x p2) X.env)] := by rfl) :
    PID X g (.Tuple elts kk tpos) (.Call (.Name "enumerate" p) [.Name x p2] [] pos) (idEnumV i) :=
  pid_of (pi_enumA hg hm (pa_cons (pe_var hN hv hd hcd) pa_nil hs) hs) fun b σ H env Qd R hd xl ⟨d, ds, e, hs, q⟩ k => by
    obtain ⟨oa, h1, h2, h3, h4⟩ := hd.slots
    obtain ⟨v, q1, q2⟩ := h3 i d e
    refine ⟨v, q1, si_enum (b := b) (env := env) (σ := σ) (d := d) ⟨hd.len, hd.ext, oa, h1, h2, h3, fun p hp => ?_⟩ hs fun J hw hd2 it => k J H hw _ hd2 (.refl hd.ok) it q⟩
    rcases List.mem_cons.mp hp with z | hp
    · rw [z]; exact q2
    · exact h4 p hp
end
end Dl

namespace Dl
open PySem PySem.Spec PyProof.Rows L2

def Cl (P : Program) (w : World) (K : PySem.W.Frag) (mg : Str → Option Value) (base : Heap) (I : HI) (k : Nat) (x : Str) (n : Nat) (C : Ct) (dds : List D) : Prop :=
  ∃ (fa : Addr) (fd : FuncData) (ps : List Str) (ds : List Value) (dvs : List V), FnOk P w K mg base (L2.CX P w) k fa fd ps (spOf K I n C) ∧ mg x = some (.ref fa) ∧ PySem.W.keepIn K (.ref fa) = true ∧ L2.Binds K fd ps ds ∧ Vals dvs ds ∧ ∀ H, DenA K I.own H dvs dds
abbrev ClX (X : Cx) (I : HI) (k : Nat) (x : Str) (n : Nat) (C : Ct) (dds : List D) : Prop := Cl X.prog X.w X.K X.mg X.base I k x n C dds
def Ar (n : Nat) (C : Ct) : Prop := ∀ xs Q E, C xs Q E → xs.length = n
theorem h64 {A : Around} {k : Nat} (hr : Room k A) : A.units + 64 < cLine := hr.units
theorem h65 {A : Around} {k : Nat} (hr : Room k A) : A.units + 65 < cLine := by have := hr.un; omega
section
variable {X : Cx} {g : Gx} {e e2 : Expr} {es : List Expr} {td ti tv : TED} {tas : TAD} {pos p p2 : Pos} {x : Str}
theorem d_callC {k j n : Nat} {C : Ct} {dds : List D} (c : ClX X g.I k x n C dds) (hC : Ar n C) (hr : Room j X.A) (hj : k ≤ j) (hg : Gl X x) (tk : Takes X g.W) (ha : PAD X g (e :: es) tas)
    (hdb : (x == ("__debug__" : Str)) = false := by decide) (he : starEach (e :: es) X.env = (false, eval e X.env) :: starEach es X.env := by rfl) (hpl : (backTo pos (starEach es X.env)).any (·.1) = false := by rfl) :
    PED X g (.Call (.Name x p) (e :: es) [] pos) (dCall C dds g.Ed tas) := by
  obtain ⟨fa, fd, ps, ds, dvs, F, hm, hk, hb, hd, hdd⟩ := c
  exact d_call F (hr.mono hj) hg hm hk hb hd hdd tk hC ha hdb he hpl
theorem d_gint {i : Int} (hg : Gl X x) (hm : ∃ t, X.mg x = some (.int i t)) (hd : (x == ("__debug__" : Str)) = false := by decide) : PED X g (.Name x p) (dC (.int i)) := by
  obtain ⟨t, hm⟩ := hm
  exact ped_of (pe_glob (v := .int i) hg hm ⟨t, rfl⟩ hd) (sd_c fun _ => by simp only [Den])

section
variable {i : Nat} {y : Str} {py : Pos} {elt tg iter : Expr} {ifs : List Expr} {scope : Scope} {own : List (Str × Nat)} {spos : Pos} {gt : TG} {tid : TID} {gd : TGD} {tt : TTD} {ed : TED}
theorem ds_lcN (hc : X.calm = true) (hN : X.N.Nodup) (hy : X.N[i]? = some y) (hyl : X.env.scope.names.lookup y = some .local) (hsw : swapsWith (.ListComp elt [⟨tg, iter, ifs, 0⟩] scope pos) (some (.Name y py)) spos.line X.env = pure true)
    (hi : PID X g tg iter tid) (ok : BlkOk X.N X.env.scope scope own)
    (hg : ∀ (s : Shared) (H : Hp) (C : Addr) (cl : List (Str × Addr)) (fp : List Addr), PG (X.blk s H scope (compEnvC scope cl C X.env) fp) tg gt) (sg : SG X.K g.nox gt gd) (gw : GW gt (own.map (·.2)))
    (ht : ST X.K g.nox (wBT X scope ifs) tt) (he : SE X.K g.nox (wBE X scope elt) ed) (hs : ∀ x, foldedSetIterable iter X.env x = pure x := by intro _; rfl) :
    PSD X g (.Assign [.Name y py] (.ListComp elt [⟨tg, iter, ifs, 0⟩] scope pos) spos) (sNew i (fLc tid gd tt ed (own.map (·.2)))) :=
  psd_of (ps_setLc hc hN hy hyl hsw pi_w ok hg (fun _ _ _ _ _ => pt_blk) (fun _ _ _ _ _ => pe_blk) hs) fun b σ H env Dd E hd xl h el =>
    sf_lc hi sg gw ht he b σ H env _ _ hd xl h fun p vs ds H1 hp e1 hl dn ⟨z, kp, q⟩ => el.nx _ _ _ (hd.putNew z hp e1 hl dn kp) q
theorem ds_lcV (hc : X.calm = true) (hN : X.N.Nodup) (hy : X.N[i]? = some y) (hyl : X.env.scope.names.lookup y = some .local) (hsw : swapsWith (.ListComp elt [⟨tg, iter, ifs, 0⟩] scope pos) (some (.Name y py)) spos.line X.env = pure true)
    (hi : PID X g tg iter tid) (ok : BlkOk X.N X.env.scope scope own)
    (hg : ∀ (s : Shared) (H : Hp) (C : Addr) (cl : List (Str × Addr)) (fp : List Addr), PG (X.blk s H scope (compEnvC scope cl C X.env) fp) tg gt) (sg : SG X.K g.nox gt gd) (gw : GW gt (own.map (·.2)))
    (ht : ST X.K g.nox (wBT X scope ifs) tt) (he : SE X.K g.nox (wBE X scope elt) ed) (hs : ∀ x, foldedSetIterable iter X.env x = pure x := by intro _; rfl) :
    PSD X g (.Assign [.Name y py] (.ListComp elt [⟨tg, iter, ifs, 0⟩] scope pos) spos) (sAsg i (dF (fLc tid gd tt ed (own.map (·.2))))) :=
  psd_of (ps_setLc hc hN hy hyl hsw pi_w ok hg (fun _ _ _ _ _ => pt_blk) (fun _ _ _ _ _ => pe_blk) hs) fun b σ H env Dd E hd xl h el =>
    sf_lc hi sg gw ht he b σ H env _ _ hd xl h fun p vs ds H1 hp e1 hl dn ⟨kp, q⟩ => el.nx _ _ _ ((hd.mono e1).put (by
      simp only [Den]
      exact ⟨p, vs, rfl, hl, HI.nown hd.ok hp, DenA.weak (fun a z => .inl z) _ _ dn⟩) kp) q
end
end
end Dl

namespace Dl
open PySem PySem.Spec PyProof.Rows L2 He
def clsB (K : PySem.W.Frag) (C : Addr) : Bool := match K.lookup C with
  | some ⟨.type t, _, .cls cd, sl⟩ => (match cd.mro, sl.toList with
    | .ref C' :: bm, [_, _, _, _, some (.builtin n), _] => decide (t = "type") && (C' == C && (decide (n = "ValueError.__new__") && (!cd.hasDel && (cd.hasDict && PySem.HandSPX.refsVE bm))))
    | _, _ => false)
  | _ => false
theorem clsB_ok {K : PySem.W.Frag} {C : Addr} (q : clsB K C = true) : ∃ nm qn N bs bm sn sub ab col dd k0 k1 k2 k3 k5, K.lookup C = some (excClassObj nm qn C N bs bm true sn sub ab col dd k0 k1 k2 k3 k5 "ValueError.__new__") ∧ PySem.HandSPX.refsVE bm = true := by
  unfold clsB at q
  split at q
  · rename_i t dd cd sl ho
    split at q
    · rename_i C' bm k0 k1 k2 k3 n k5 hm hs
      simp only [Bool.and_eq_true, beq_iff_eq, Bool.not_eq_true', decide_eq_true_eq] at q
      obtain ⟨rfl, rfl, rfl, hdel, hh, hr⟩ := q
      obtain ⟨nm, bs, mro, ns, qn, hd, sn, sub, ab, col, del⟩ := cd
      dsimp only at hm hdel hh
      subst hm hdel hh
      have hsl : sl = #[k0, k1, k2, k3, some (.builtin "ValueError.__new__"), k5] := by
        obtain ⟨l⟩ := sl
        simp only at hs
        rw [hs]
      subst hsl
      exact ⟨nm, qn, ns, bs, bm, sn, sub, ab, col, dd, k0, k1, k2, k3, k5, ho, hr⟩
    · cases q
  · cases q
def errB (K : PySem.W.Frag) (x fl : Str) : Bool := clsB K (ga K x) && (decide (PySem.W.findIn K (.ref (ga K x)) "__setattr__" = some (some (.builtin "object.__setattr__"))) && (decide (PySem.W.subIn K (.ref (ga K x)) (.type "BaseException") = some true) &&
  (decide (PySem.W.typeIn K (.ref (ga K x)) = some (.type "type")) && (PySem.W.keepIn K (.ref (ga K x)) && (decide (PySem.W.findIn K (.ref (ga K x)) fl = some none) &&
  (decide (PySem.W.findIn K (.ref (ga K x)) "__init__" = some (some (.ref (ma K (ga K x) "__init__")))) && decide (PySem.W.typeIn K (.ref (ma K (ga K x) "__init__")) = some (.type "function"))))))))
structure ErrF (K : PySem.W.Frag) (x fl : Str) : Prop where
  e : ErrC K (ga K x) fl
  i : PySem.W.findIn K (.ref (ga K x)) "__init__" = some (some (.ref (ma K (ga K x) "__init__")))
  t : PySem.W.typeIn K (.ref (ma K (ga K x) "__init__")) = some (.type "function")
theorem errB_ok {K : PySem.W.Frag} {x fl : Str} (h : errB K x fl = true) : ErrF K x fl := by
  obtain ⟨h1, h⟩ := ba h
  obtain ⟨h2, h⟩ := ba h
  obtain ⟨h3, h⟩ := ba h
  obtain ⟨h4, h⟩ := ba h
  obtain ⟨h5, h⟩ := ba h
  obtain ⟨h6, h⟩ := ba h
  obtain ⟨h7, h8⟩ := ba h
  exact ⟨⟨⟨clsB_ok h1, of_decide_eq_true h2, of_decide_eq_true h3, of_decide_eq_true h4, h5⟩, of_decide_eq_true h6⟩, of_decide_eq_true h7, of_decide_eq_true h8⟩
structure Er (P : Program) (w : World) (K : PySem.W.Frag) (mg : Str → Option Value) (base : Heap) (x fl : Str) : Prop where
  f : ErrF K x fl
  m : mg x = some (.ref (ga K x))
  ex : ∃ fd, FnOk P w K mg base CX0 1 (ma K (ga K x) "__init__") fd ["self", fl] (spExc (ga K x) fl) ∧ L2.Binds K fd ["self", fl] []
section
variable {X : Cx} {g : Gx} {e : Expr} {td : TED} {pos p cpos : Pos} {x fl : Str} {j : Nat}
theorem ds_raiseC (er : Er X.prog X.w X.K X.mg X.base x fl) (hc : X.calm = true) (hr : Room j X.A) (hj : 2 ≤ j) (hg : Gl X x) (tk : Takes X g.W) (ha : PED X g e td)
    (hdb : (x == ("__debug__" : Str)) = false := by decide) (he : starEach (e :: []) X.env = (false, eval e X.env) :: starEach [] X.env := by rfl) (hpl : (backTo cpos (starEach [] X.env)).any (·.1) = false := by rfl) :
    PSD X g (.Raise (some (.Call (.Name x p) [e] [] cpos)) none pos) (sRaise (ga X.K x) fl g.Ed td) := by
  obtain ⟨fd, F, hb⟩ := er.ex
  exact ds_raise hc er.f.e er.f.i er.f.t F pass0 (hr.mono hj) hb hg er.m tk ha hdb he hpl
end
abbrev AlZ : Type := AlD × Bool
def obsZ (n : Nat) (fa : List Fa) (fn : List DefD) (ex : PySem.W.Frag → Bool) (g : Addr → Option Obj) : AlZ := (obsD fa fn (frG g (asD g n)), ex (frG g (asD g n)))
def hookZ (n : Nat) (fa : List Fa) (fn : List DefD) (ex : PySem.W.Frag → Bool) : PySem.W.Hook where
  α := AlZ
  obs := fun s => obsZ n fa fn ex s.heap.get?
  val := fun _ => (valD fn, true)
  says := fun _ h => ∃ K : PySem.W.Frag, K.In h ∧ SaysD fa fn K ∧ ex K = true
  of := fun _ _ e => ⟨_, frG_in, congrArg (fun z : AlZ => z.1) e, congrArg (fun z : AlZ => z.2) e⟩
  keeps := fun _ _ _ ⟨K, hK, c⟩ k => ⟨K, PySem.W.Frag.In.keeps hK k, c⟩
theorem obsZ_eq {n : Nat} {fa : List Fa} {fn : List DefD} {ex : PySem.W.Frag → Bool} {g : Addr → Option Obj} {s : Shared} (h : ∀ a, g a = s.heap.get? a) : obsZ n fa fn ex g = (hookZ n fa fn ex).obs s := by
  have e : g = s.heap.get? := funext h
  rw [e] <;> rfl
def defD (st : Stmt) (cl : Option Str) (x : Str) (dfl : List Dv) : DefD := ⟨(match cl with | some c => (c, some x) | none => (x, none)), x, (match cl with | some c => c ++ "." ++ x | none => x), defArgs st, defBody st, defScope st, dfl, []⟩
end Dl

namespace SrtT
open PySem PyProof.Rows Srt SrtO
def After (s1 : Shared) (out : List Value) (s2 : Shared) : Prop := ∃ h : Heap, s2 = { s1 with heap := h } ∧ (∀ b o, s1.heap.get? b = some o → h.get? b = some o) ∧ ∃ e, h.get? s1.heap.objs.size = some (seqObj "list" out.toArray e)
theorem sorted_any {prog : Program} {w : World} {A : Around} {E : Value → Shared → Prop} {s : Shared} {v : Value} {ltv : Value → Value → Bool} {Q : Value → Shared → Prop} (O : Swo ltv) (G : List Value → Shared → Prop)
    (gather : ∀ (E' : Value → Shared → Prop) (R : List Value → Shared → Prop), (∀ vs s1, G vs s1 → R vs s1) → wpAny (model prog w) A.in1 (collect v) R E' s)
    (fits : ∀ vs s1, G vs s1 → vs.length ≤ sizeLine)
    (able : ∀ vs s1, G vs s1 → 2 ≤ vs.length → ∀ (h2 : Heap) (a : Addr), (∀ b o, s1.heap.get? b = some o → b ≠ a ∧ h2.get? b = some o) → SortableO prog w A.in1.in1 { s1 with heap := h2 } a vs ltv)
    (fin : ∀ vs s1, G vs s1 → ∀ out s2, Srtd ltv out → Stb ltv out vs → After s1 out s2 → Q (.ref s1.heap.objs.size) s2) : wpAny (model prog w) A (call (.builtin "sorted") [v]) Q E s := by
  apply Calls.call_function_entry kind_sorted plain_sorted entry_sorted (args_sorted1 _)
  unfold Builtin.«sorted»
  apply wpAny_bind (m := checkCount "sorted" 1 1 _)
  apply wpAny_pure
  apply wpAny_bind
  apply gather
  intro vs s1 g
  have hz := fits vs s1 g
  apply wpAny_bind
  refine wpAny_newList ?_ hz
  have made : (s1.heap.push (seqObj "list" vs.toArray 0)).get? s1.heap.objs.size = some (seqObj "list" vs.toArray 0) := Heap.get?_push_size _ rfl
  have old : ∀ b o, s1.heap.get? b = some o → b ≠ s1.heap.objs.size ∧ (s1.heap.push (seqObj "list" vs.toArray 0)).get? b = some o := fun b o q => ⟨Nat.ne_of_lt (Heap.lt_size q), Heap.get?_push_of_some _ q⟩
  show wpAny _ _ _ _ _ { s1 with heap := s1.heap.push (seqObj "list" vs.toArray 0) }
  apply wpAny_bind
  apply wpAny_holding
  refine wpAny_call_entry slot_list_sort ⟨_, made, rfl⟩ entry_list_sort (list_sort_ord O made hz (fun h2 => able vs s1 g h2 _ _ old) fun out so st => ⟨_, rfl, ?_⟩) (args_list_sort _)
  refine wpAny_pure ⟨_, rfl, fin vs s1 g out _ so st ⟨_, rfl, fun b o q => ?_, sortedHeap_at made⟩⟩
  obtain ⟨ne, q'⟩ := old b o q
  rw [sortedHeap_old ne (Heap.lt_size q')]
  exact q'
end SrtT
namespace Dl
open PySem PySem.Spec PyProof.Rows L2
theorem pf_e {X : Cx} {g : Gx} {e : Expr} {td : TFD} (h : PFD X g e td) : PED X g e (dF td) := SF.se h
end Dl

namespace Dl
open PySem PySem.Spec PyProof.Rows L2

def Exc.noLst (x : Exc) : Bool := match x.fs with
  | none => true
  | some fs => noLstA (fs.map (·.2))
def excD (a : Addr) (d : Option Addr) (x : Exc) : D := match x.fs, d with
  | some fs, some dd => .obj (.cau a dd) (fs.map (·.1)) (fs.map (·.2))
  | _, _ => .ref a
theorem excD_noLst {a : Addr} {d : Option Addr} {x : Exc} (h : x.noLst = true) : (excD a d x).noLst = true := by
  unfold excD
  unfold Exc.noLst at h
  split
  · rename_i fs dd e1
    rw [e1] at h
    simpa only [D.noLst] using h
  · simp only [D.noLst]
theorem excD_den {K : PySem.W.Frag} {I : HI} {H : Hp} {a : Addr} {d : Option Addr} {x : Exc} (ok : I.ok H) (no : ∀ dd fs, H dd = some (.xd fs) → ¬ I.own dd) (h : ExD K I H x d) : Den K I.own H (.ref a) (excD a d x) := by
  unfold ExD at h
  unfold excD
  cases e : x.fs with
  | none =>
    rw [e] at h
    simp only [Den]
  | some fs =>
    rw [e] at h
    obtain ⟨dd, ws, rfl, hx, dn⟩ := h
    simp only [Den]
    refine ⟨ws, by rw [dn.len, List.length_map, List.length_map], ⟨rfl, no _ _ hx, hx⟩, dn⟩
def HI.noXd (I : HI) : Prop := ∀ H, I.ok H → ∀ dd fs, H dd = some (.xd fs) → ¬ I.own dd
theorem DenE.del {K : PySem.W.Frag} {I : HI} {b : B0} {σ : L2.St} {H : Hp} {env : DEnv} (h : DenE K I b σ H env) (i : Nat) : DenE K I b (σ.set i none) H (env.set i .no) := by
  obtain ⟨oa, h1, h2, h3, h4⟩ := h.slots
  have sub : ∀ a, AvOf I (env.set i .no) oa a → AvOf I env oa a := fun a z => z.imp id fun ⟨j, xs, e, q⟩ => by
    rcases get_set e with ⟨_, e⟩ | ⟨_, e⟩
    · cases e
    · exact ⟨j, xs, e, q⟩
  refine ⟨by rw [List.length_set, List.length_set]; exact h.len, h.ext, oa, fun j xs e => ?_, fun j k xs ys e1 e2 => ?_, fun j d' e => ?_, fun p hp => Den.weak sub _ _ (h4 p hp)⟩
  · rcases get_set e with ⟨_, e⟩ | ⟨ne, e⟩
    · cases e
    · obtain ⟨⟨vs, e1, e2, e3⟩, e4⟩ := h1 j xs e
      exact ⟨⟨vs, by rw [List.getElem?_set_ne (Ne.symm ne)]; exact e1, e2, DenA.weak sub _ _ e3⟩, e4⟩
  · rcases get_set e1 with ⟨_, e1⟩ | ⟨_, e1⟩
    · cases e1
    · rcases get_set e2 with ⟨_, e2⟩ | ⟨_, e2⟩
      · cases e2
      · exact h2 j k xs ys e1 e2
  · rcases get_set e with ⟨_, e⟩ | ⟨ne, e⟩
    · cases e
    · obtain ⟨v, e1, e2⟩ := h3 j d' e
      exact ⟨v, by rw [List.getElem?_set_ne (Ne.symm ne)]; exact e1, Den.weak sub _ _ e2⟩

abbrev TSX := (DEnv → Exc → Prop) → TSD
def rdS (K : PySem.W.Frag) (I : HI) (td : TSX) (W : WX) : TS := fun E σ H => ∃ b env Dd Ed, DenE K I b σ H env ∧ XL K ⟨I, Ed, W⟩ b ∧ td Ed Dd env ∧ EL K ⟨I, Ed, W⟩ b Dd E
def rdU (K : PySem.W.Frag) (I : HI) (ts : Addr → Option Addr → Exc → TSD) (a : Addr) (cls : Value) (d : Option Addr) : TS := fun E σ H => ∃ b env Dd x, cls = .ref x.cls ∧ (x.fs.isSome = d.isSome) ∧ DenE K I b σ H env ∧ ts a d x Dd env ∧ EL K ⟨I, fun _ _ => False, fun _ _ _ _ => False⟩ b Dd E
section
variable {X : Cx} {g : Gx} {x n : Str} {c : Value} {i : Nat} {body suite : List Stmt} {b₀ : Stmt} {np pos pos' : Pos} {tb : TSX} {ts : Addr → Option Addr → Exc → TSD}
end
section
variable {X : Cx} {g : Gx} {a : Addr} {oe : Obj} {x : Exc} {d : Option Addr} {pn : List (Addr × Obj)} {e : Expr} {te : TED} {pos p : Pos} {n y : Str}
def lookD (n : Str) : List (Str × D) → Option D
  | [] => none
  | (m, d) :: r => if n = m then some d else lookD n r
def dXf (K : PySem.W.Frag) (a : Addr) (d : Option Addr) (x : Exc) (n : Str) (te : TED) : TED := fun env Q => te env fun z => z = excD a d x ∧ XfC K x.cls ∧ PySem.W.findIn K (.ref x.cls) n = some none ∧ ∃ fs v, x.fs = some fs ∧ d.isSome = true ∧ lookD n fs = some v ∧ Q v
theorem look_zip {K : PySem.W.Frag} {Av : Addr → Prop} {H : Hp} {n : Str} : ∀ {fs : List (Str × D)} {ws : List V} {v : D}, DenA K Av H ws (fs.map (·.2)) → lookD n fs = some v → ∃ u, ((fs.map (·.1)).zip ws).lookup n = some u ∧ Den K Av H u v
  | [], _, _, _, h => by cases h
  | (m, d) :: r, ws, v, dn, h => by
    obtain ⟨u, us, rfl, h1, h2⟩ := DenA.cons (show DenA K Av H ws (d :: r.map (·.2)) from dn)
    unfold lookD at h
    by_cases e : n = m
    · rw [if_pos e] at h
      cases h
      subst e
      exact ⟨u, by simp, h1⟩
    · rw [if_neg e] at h
      obtain ⟨u', q1, q2⟩ := look_zip h2 h
      refine ⟨u', ?_, q2⟩
      show ((m, u) :: (r.map (·.1)).zip us).lookup n = some u'
      rw [List.lookup_cons]
      have : (n == m) = false := by simpa using e
      rw [this]
      exact q1
theorem d_xf (hz : Zc (.ref x.cls) d oe) (hf : ∃ vs, oe.data = .fields vs) (he : PED (X.suite a ((a, oe) :: pn)) g e te) (hb : attributeBase e n X.env (eval e X.env) = eval e X.env := by rfl) :
    PED (X.suite a ((a, oe) :: pn)) g (.Attribute e n pos) (dXf X.K a d x n te) := fun b0 σ H env Qd Q hd xl ht k pins s J => by
  refine attr_of hb (thn (he b0 σ H env (fun z => z = excD a d x ∧ XfC X.K x.cls ∧ PySem.W.findIn X.K (.ref x.cls) n = some none ∧ ∃ fs v, x.fs = some fs ∧ d.isSome = true ∧ lookD n fs = some v ∧ Qd v) (fun z H1 => z = .ref a ∧ XfC X.K x.cls ∧ PySem.W.findIn X.K (.ref x.cls) n = some none ∧ ∃ (dd : Addr) (fs : List (Str × V)) (v : V), d = some dd ∧ H1 dd = some (.xd fs) ∧ fs.lookup n = some v ∧ Q v H1) hd xl ht (fun v z H1 e1 dn hq => ?_) pins s J) fun u s1 hh => ?_)
  · obtain ⟨ez, hX, hn, fs, w, ef, es, el, q⟩ := hq
    obtain ⟨dd, rfl⟩ := Option.isSome_iff_exists.mp es
    have ez' : z = .obj (.cau a dd) (fs.map (·.1)) (fs.map (·.2)) := by rw [ez]; unfold excD; rw [ef]
    subst ez'
    simp only [Den] at dn
    obtain ⟨ws, hl, ⟨rfl, _, hx⟩, da⟩ := dn
    obtain ⟨u, q1, q2⟩ := look_zip da el
    exact ⟨rfl, hX, hn, dd, _, u, rfl, hx, q1, k u w H1 e1 q2 q⟩
  · obtain ⟨z, H1, I1, rx, ez, T, hno, dd, fs, v, ed, ea, l, q⟩ := hh
    subst ez
    obtain rfl : u = Value.ref a := rx
    subst ed
    obtain ⟨ha, _⟩ := I1.pin (a, oe) (List.mem_append_left _ List.mem_cons_self)
    obtain ⟨vs, hdt⟩ := hf
    have hx : ObjOk X.prog X.w H1 s1.heap dd (.xd fs) := I1.hok dd _ ea
    obtain ⟨mA, hns, hr⟩ := hx
    obtain ⟨od, ho, hl⟩ := lookIn_ns hns
    obtain ⟨u, hu, ru⟩ := RelO.some_of (v := v) (o := mA n) (by rw [← l]; exact hr n)
    have J : PySem.W.InstAt s1.heap a oe x.cls (some od) := ⟨ha, hz.1, by unfold PySem.W.notCls; rw [hdt] <;> rfl, by rw [hz.2]; exact ho⟩
    exact HandSPX.exc_get I1.kIn J T.ga T.gg T.exC (PySem.W.findObj_own T.hdC hno rfl (by rw [hl, hu])) (handed_of ru) ⟨v, H1, I1.tok _, ru, q⟩
end
end Dl

namespace Dl
open PySem PySem.Spec PyProof.Rows L2

def wK (X : Cx) (kws : List Keyword) : L2.TA := fun σ H Q => ∀ pos pins s, Inv X pins σ H s → wpAny (model X.prog X.w) X.A (evalAll ((backToKw pos (keywordEach kws X.env)).map (·.2))) (AP X pins σ Q) X.xe s
def PKD (X : Cx) (g : Gx) (kws : List Keyword) (td : TAD) : Prop := SA X.K g (wK X kws) td
section
variable {X : Cx} {g : Gx} {e : Expr} {es : List Expr} {kws : List Keyword} {nm : Option Str} {td : TED} {ta tk : TAD} {pos p kpos : Pos} {x : Str}
theorem pk_w : PK X kws (wK X kws) := ⟨fun pos pins s σ H Q I h => h pos pins s I⟩
theorem pkd_of {ta' : L2.TA} (p : PK X kws ta') (h : SA X.K g ta' ta) : PKD X g kws ta := fun b0 σ H env Qd Q hd xl ht k pos pins s J => p.run pos pins s σ H Q J (h b0 σ H env Qd Q hd xl ht k)
theorem dk_nil : PKD X g [] dNil := pkd_of pk_nil fun b0 σ H env Qd Q hd xl h k => k [] [] H (.refl hd.ok) (by simp only [DenA]) h
theorem dk_cons (he : PED X g e td) (ht : PKD X g kws tk) : PKD X g (⟨nm, e, kpos⟩ :: kws) (dCons td tk) :=
  pkd_of (pk_cons pe_w pk_w) fun b0 σ H env Qd Q hd xl h k => he b0 σ H env _ _ hd xl h fun v d H1 e1 dn h1 => ht b0 σ H1 env _ _ (hd.mono e1) xl h1 fun vs ds H2 e2 dn2 q =>
    k (v :: vs) (d :: ds) H2 (e1.trans e2) (by simp only [DenA]; exact ⟨v, vs, rfl, Den.keep e2.1 _ _ dn, dn2⟩) q
end

section
variable {X : Cx} {g : Gx} {e e2 : Expr} {td ti : TED} {pos : Pos} {x : Str} {i : Nat} {p1 : Pos}
end
end Dl

namespace Dl
open PySem PySem.Spec PyProof.Rows L2
def isWh (x lo hi : D) : Bool := match x with
  | .int i => (match lo with | .int l => decide (l ≤ i) | _ => true) && (match hi with | .int h => decide (i ≤ h) | _ => true)
  | _ => false
def isOpt : D → Prop
  | .non => True
  | .int _ => True
  | _ => False
def C_is_whole (K : PySem.W.Frag) : Ct := fun ds Q _ => ∃ x lo hi, ds = [x, lo, hi] ∧ x.tyn.isSome = true ∧ isOpt lo ∧ isOpt hi ∧ Q (.bl (isWh x lo hi))
theorem ar_is_whole (K : PySem.W.Frag) : Ar 3 (C_is_whole K) := fun _ _ _ ⟨_, _, _, e, _⟩ => by rw [e]; rfl
def fstBad (bad : List D → D → Bool) : List D → List D → Option Nat
  | _, [] => none
  | pre, d :: ds => if bad pre d = true then some pre.length else fstBad bad (pre ++ [d]) ds
def allTy (xs : List D) : Prop := ∀ x ∈ xs, x.tyn.isSome = true
def excI (K : PySem.W.Frag) (c : Str) (i : Int) : Exc := ⟨He.ga K c, some [("index", .int i)]⟩
def C__law_mixed (K : PySem.W.Frag) : Ct := fun ds Q E => ∃ a b : Int, ds = [.int a, .int b] ∧ 0 ≤ a ∧ a < 2 ^ 32 ∧ 0 ≤ b ∧ b < 2 ^ 32 ∧ ∀ r : Int, 0 ≤ r → r < 2 ^ 32 → Q (.int r)
def C__law_whole (K : PySem.W.Frag) : Ct := fun ds Q E => ∃ x, ds = [x] ∧ x.tyn.isSome = true ∧ Q (.bl (isWh x .non .non))
theorem ar__law_whole (K : PySem.W.Frag) : Ar 1 (C__law_whole K) := fun _ _ _ ⟨_, e, _⟩ => by rw [e]; rfl
end Dl

namespace Dl
open PySem PySem.Spec PyProof.Rows L2
section
variable {X : Cx} {g : Gx} {c a b : Expr} {t : TTD} {ta tb : TFD} {pos : Pos}
end
end Dl

namespace Dl
open PySem PySem.Spec PyProof.Rows L2
structure HandAt (hd c : Addr) (cs : List Int) (at_ held tot : Int) (H : Hp) : Prop where
  h : H hd = some (.lst [.ref c, .int at_, .int held, .int tot])
  c : H c = some (.lst (cs.map V.int))
  len : cs.length ≤ 63
  pos : ∀ x ∈ cs, 0 ≤ x
  a0 : 0 ≤ at_
  a1 : at_ ≤ 63
  h0 : 0 ≤ held
  t0 : 0 ≤ tot
  t1 : tot < 2 ^ 32
def handI (hd c : Addr) : HI where
  own := fun a => a = hd
  foot := fun a => a = hd ∨ a = c
  ok := fun H => ∃ cs at_ held tot, HandAt hd c cs at_ held tot H
  sub := fun a h => .inl h
  dom := fun H a ⟨cs, at_, held, tot, h⟩ f z => by
    rcases f with rfl | rfl
    · have := h.h; rw [z] at this; cases this
    · have := h.c; rw [z] at this; cases this
  loc := fun H H' e ⟨cs, at_, held, tot, h⟩ => ⟨cs, at_, held, tot, ⟨by rw [e _ (.inl rfl)]; exact h.h, by rw [e _ (.inr rfl)]; exact h.c, h.len, h.pos, h.a0, h.a1, h.h0, h.t0, h.t1⟩⟩
theorem handI_noXd (hd c : Addr) : (handI hd c).noXd := fun H ⟨cs, at_, held, tot, h⟩ dd fs e z => by
  have z : dd = hd := z
  subst z
  have := h.h
  rw [e] at this; cases this
def C__law_take (hd : Addr) : Ct := fun ds Q _ => ∃ m : Int, ds = [.ref hd, .int m] ∧ 0 < m ∧ m < 2 ^ 200 ∧ ∀ r : Int, 0 ≤ r → r < m → Q (.int r)
theorem ar__law_take (hd : Addr) : Ar 2 (C__law_take hd) := fun _ _ _ ⟨_, e, _⟩ => by rw [e]; rfl
theorem kp_mut {hd c : Addr} {H : Hp} {o : HO} : Kp (handI hd c).own H (upd H hd o) := Kp.mut (Av := (handI hd c).own) (show hd = hd from rfl)
theorem it_t {b : Bool} {p q : Prop} (h : b = true) (k : p) : if b = true then p else q := by rw [if_pos h]; exact k
theorem it_f {b : Bool} {p q : Prop} (h : b = false) (k : q) : if b = true then p else q := by rw [if_neg (by rw [h]; decide)]; exact k
section
variable {K : PySem.W.Frag} {σ : L2.St} {H : Hp} {Q : VK}
theorem v_ix {i : Nat} {k : Int} {hd : Addr} {xs : List V} {v : V} (e : σ[i]? = some (some (.ref hd))) (h : H hd = some (.lst xs)) (a : atI xs k = some v) (q : Q v H) : tOp (rIxL K) (tVar i) (tC (.int k)) σ H Q := ⟨_, e, hd, xs, k, v, rfl, rfl, SqL.of h, a, q⟩
theorem v_set {i : Nat} {k : Int} {j : Nat} {hd : Addr} {xs : List V} {v : V} {Q : L2.St → Hp → Prop} (e : σ[i]? = some (some (.ref hd))) (h : H hd = some (.lst xs)) (a : ixN xs.length k = some j) (q : Q σ (upd H hd (.lst (xs.set j v)))) : gSub (tVar i) (tC (.int k)) rSetL v σ H Q := ⟨_, e, hd, xs, k, j, rfl, rfl, h, a, q⟩
theorem seq_of {t u : TS} {D : Ends} (P : L2.St → Hp → Prop) (hb : ∀ σ' H', P σ' H' → u D σ' H') (ha : (∀ σ' H', P σ' H' → u D σ' H') → t { D with nx := u D } σ H) : tSeq t u D σ H := ha hb
theorem HandAt.set {hd c : Addr} {cs : List Int} {a h t a' h' t' : Int} (Z : HandAt hd c cs a h t H) (hne : hd ≠ c) (q1 : 0 ≤ a') (q2 : a' ≤ 63) (q3 : 0 ≤ h') (q4 : 0 ≤ t') (q5 : t' < 2 ^ 32) : HandAt hd c cs a' h' t' (upd H hd (.lst [.ref c, .int a', .int h', .int t'])) :=
  ⟨upd_same, by rw [upd_ne (Ne.symm hne)]; exact Z.c, Z.len, Z.pos, q1, q2, q3, q4, q5⟩
theorem take_cell {cs : List Int} {at_ : Int} (h0 : 0 ≤ at_) (h1 : at_ < cs.length) : ∃ x, atI (cs.map V.int) at_ = some (.int x) ∧ x ∈ cs := by
  have hlt : at_.toNat < cs.length := by omega
  refine ⟨cs[at_.toNat], ?_, List.getElem_mem hlt⟩
  unfold atI ixN
  simp only [List.length_map]
  rw [if_pos (by omega)]
  rw [if_pos h1]
  simp [List.getElem?_eq_getElem hlt]
end
end Dl

namespace Dl
open PySem PySem.Spec PyProof.Rows L2
end Dl

namespace Dl
open PySem PySem.Spec PyProof.Rows L2
theorem tm_bool : ("bool" ∈ tyNames) = True := by simp [tyNames]
theorem tm_int : ("int" ∈ tyNames) = True := by simp [tyNames]
theorem forD_of {gd : TGD} {tb : TSD} {Dd : DEnds} (Inv : List D → List D → DEnv → Prop) (end_ : ∀ done env, Inv done [] env → Dd.nx env)
    (step : ∀ done x rest env, Inv done (x :: rest) env → (∀ env', Inv (done ++ [x]) rest env' → forD gd tb Dd rest env') → gd x env (tb { Dd with nx := forD gd tb Dd rest, ct := forD gd tb Dd rest, bk := Dd.nx })) :
    ∀ rest done env, Inv done rest env → forD gd tb Dd rest env
  | [], done, env, h => end_ done env h
  | x :: rest, done, env, h => step done x rest env h fun env' h' => forD_of Inv end_ step rest (done ++ [x]) env' h'
theorem lcD_map {gd : TGD} {tt : TTD} {te : TED} {env : DEnv} {Q : List D → Prop} (f : D → D) (p : D → Bool) : ∀ (xs acc : List D),
    (∀ x ∈ xs, ∀ (R : Option D → Prop), R (if p x = true then some (f x) else none) → gd x env fun env2 => tt env2 fun b => if b = true then te env2 fun y => y.noLst = true ∧ R (some y) else R none) →
    Q (acc ++ (xs.filter p).map f) → lcD gd tt te env xs acc Q
  | [], acc, _, q => by
    show Q acc
    simpa using q
  | x :: xs, acc, h, q => by
    show gd x env fun env2 => tt env2 fun b => if b = true then te env2 fun y => y.noLst = true ∧ lcD gd tt te env xs (acc ++ [y]) Q else lcD gd tt te env xs acc Q
    refine h x List.mem_cons_self (fun o => match o with | some y => lcD gd tt te env xs (acc ++ [y]) Q | none => lcD gd tt te env xs acc Q) ?_
    cases e : p x with
    | true =>
      rw [if_pos rfl]
      exact lcD_map f p xs (acc ++ [f x]) (fun y hy => h y (List.mem_cons_of_mem _ hy)) (by simpa [List.filter_cons, e] using q)
    | false =>
      rw [if_neg (by decide)]
      exact lcD_map f p xs acc (fun y hy => h y (List.mem_cons_of_mem _ hy)) (by simpa [List.filter_cons, e] using q)
theorem fstBad_cons {bad : List D → D → Bool} {pre : List D} {d : D} {ds : List D} : fstBad bad pre (d :: ds) = if bad pre d = true then some pre.length else fstBad bad (pre ++ [d]) ds := rfl
theorem enum_loop {i j : Nat} {tb : TSD} {Dd : DEnds} {xs : List D} (bad : List D → D → Bool) (P : DEnv → Prop)
    (hbad : ∀ pre d suf env nx, xs = pre ++ d :: suf → P env → fstBad bad [] xs = some pre.length → bad pre d = true → tb { Dd with nx := nx, ct := nx, bk := Dd.nx } ((env.set i (.val (.int pre.length))).set j (.val d)))
    (hgood : ∀ pre d suf env nx, xs = pre ++ d :: suf → P env → bad pre d = false → (∀ env', P env' → nx env') → tb { Dd with nx := nx, ct := nx, bk := Dd.nx } ((env.set i (.val (.int pre.length))).set j (.val d)))
    (hend : ∀ env, fstBad bad [] xs = none → P env → Dd.nx env) : ∀ (suf pre : List D) (env : DEnv), xs = pre ++ suf → fstBad bad [] xs = fstBad bad pre suf → P env → forD (gdTup [i, j]) tb Dd (enumD pre.length suf) env
  | [], pre, env, e, h, p => hend env h p
  | d :: suf, pre, env, e, h, p => by
    refine ⟨_, rfl, rfl, ?_⟩
    show tb _ ((env.set i (.val (.int pre.length))).set j (.val d))
    rw [fstBad_cons] at h
    cases hb : bad pre d with
    | true =>
      rw [hb, if_pos rfl] at h
      exact hbad pre d suf env _ e p h hb
    | false =>
      rw [hb, if_neg (by decide)] at h
      refine hgood pre d suf env _ e p hb fun env' p' => ?_
      have := enum_loop bad P hbad hgood hend suf (pre ++ [d]) env' (by rw [e]; simp) h p'
      rw [List.length_append] at this
      exact this
def sel (p : List D → D → Bool) (f : List D → D → D) : List D → List D → List D
  | _, [] => []
  | pre, d :: ds => if p pre d = true then f pre d :: sel p f (pre ++ [d]) ds else sel p f (pre ++ [d]) ds
theorem goodA_mem : ∀ {xs : List D} {x : D}, goodA xs = true → x ∈ xs → x.good = true
  | y :: ys, x, h, m => by
    simp only [goodA, Bool.and_eq_true] at h
    rcases List.mem_cons.mp m with rfl | m
    · exact h.1
    · exact goodA_mem h.2 m
theorem goodA_of : ∀ {xs : List D}, (∀ x ∈ xs, x.good = true) → goodA xs = true
  | [], _ => rfl
  | y :: ys, h => by
    simp only [goodA, Bool.and_eq_true]
    exact ⟨h y List.mem_cons_self, goodA_of fun x m => h x (List.mem_cons_of_mem _ m)⟩
theorem depA_of {n : Nat} : ∀ {xs : List D}, (∀ x ∈ xs, x.dep ≤ n) → depA xs ≤ n
  | [], _ => Nat.zero_le _
  | y :: ys, h => by
    simp only [depA]
    exact Nat.max_le.mpr ⟨h y List.mem_cons_self, depA_of fun x m => h x (List.mem_cons_of_mem _ m)⟩
def okI (d : D) : Prop := d.good = true ∧ d.dep ≤ 50
theorem okI.ok {d : D} (h : okI d) : okD d := ⟨h.1, by have := h.2; omega⟩
theorem okI_int {i : Int} : okI (.int i) := ⟨by simp only [D.good], by simp only [D.dep]; omega⟩
theorem okD_lst {xs : List D} (h : ∀ x ∈ xs, okI x) : okD (.lst xs) := ⟨by simp only [D.good]; exact goodA_of fun x m => (h x m).1, by
  simp only [D.dep]
  have := depA_of fun x m => (h x m).2
  omega⟩
theorem okD_tup {xs : List D} (h : ∀ x ∈ xs, okI x) : okD (.tup xs) := ⟨by simp only [D.good]; exact goodA_of fun x m => (h x m).1, by
  simp only [D.dep]
  have := depA_of fun x m => (h x m).2
  omega⟩
theorem noLst_of : ∀ {xs : List D}, (∀ x ∈ xs, x.noLst = true) → noLstA xs = true
  | [], _ => rfl
  | y :: ys, h => by
    simp only [noLstA, Bool.and_eq_true]
    exact ⟨h y List.mem_cons_self, noLst_of fun x m => h x (List.mem_cons_of_mem _ m)⟩
theorem mulW {i j : Int} (h1 : i.natAbs < 2 ^ 1000) (h2 : j.natAbs < 2 ^ 1000) : CMulW i j := by
  unfold CMulW
  have f : ∀ n : Nat, n < 2 ^ 1000 → n.log2 < 1000 := fun n h => by
    by_cases e : n = 0
    · subst e; decide
    · exact (Nat.log2_lt e).mpr h
  have := f _ h1
  have := f _ h2
  omega
theorem big_abs {i : Int} (h0 : 0 ≤ i) (h : i < 2 ^ 250) : i.natAbs < 2 ^ 1000 := by
  have h1 : i.natAbs < 2 ^ 250 := by omega
  exact Nat.lt_of_lt_of_le h1 (Nat.pow_le_pow_right (by decide) (by decide))
theorem in_lst {neg : Bool} {ys : List D} {x : D} {Q : D → Prop} (h1 : okD x) (h2 : okD (.lst ys)) (h : Q (.bl (xr neg (anyD ys x)))) : fIn neg x (.lst ys) Q := ⟨h1, h2, h⟩
theorem eqD_int {i j : Int} : eqD (.int i) (.int j) = decide (i = j) := by
  unfold eqD
  simp only [D.py]
  show (i == j) = decide (i = j)
  by_cases h : i = j
  · rw [decide_eq_true h]; simpa using h
  · rw [decide_eq_false h]; simpa using h
theorem len_tup {ys : List D} {Q : D → Prop} (h : Q (.int ys.length)) : bLen [.tup ys] Q := ⟨_, rfl, h⟩
theorem len_lst {ys : List D} {Q : D → Prop} (h : Q (.int ys.length)) : bLen [.lst ys] Q := ⟨_, rfl, h⟩
theorem len_seq {x : D} {ys : List D} {Q : D → Prop} (e : seqOf x = some ys) (h : Q (.int ys.length)) : bLen [x] Q := by
  cases x <;> simp only [seqOf, Option.some.injEq, reduceCtorEq] at e <;> subst e
  · exact len_tup h
  · exact len_lst h
theorem mem_lt : ∀ n ∈ ["list", "tuple"], n ∈ tyNames := by simp [tyNames]
theorem seq_cases {x : D} {xs : List D} (h : seqOf x = some xs) : x = .tup xs ∨ x = .lst xs := by
  cases x <;> simp only [seqOf, Option.some.injEq, reduceCtorEq] at h <;> subst h <;> simp
theorem one_sz : 0 + 1 + 1 ≤ sizeLine := by decide
theorem isSeq_iff {x : D} {t : String} (h : x.tyn = some t) : (["list", "tuple"].any fun n => isiB t n) = (seqOf x).isSome := by
  cases x <;> simp only [D.tyn, Option.some.injEq, reduceCtorEq] at h <;> subst h <;> simp [isiB, seqOf]
theorem seqD {t u : TSD} {Dd : DEnds} {env : DEnv} (P : DEnv → Prop) (hb : ∀ env', P env' → u Dd env') (ha : (∀ env', P env' → u Dd env') → t { Dd with nx := u Dd } env) : sSeq t u Dd env := ha hb
theorem lcD_draw {i : Nat} {te : TED} {env : DEnv} {Q : List D → Prop} (P : D → Prop) (hP : ∀ y, P y → y.noLst = true) : ∀ (xs acc : List D), (∀ x ∈ xs, ∀ R : D → Prop, (∀ y, P y → R y) → te (env.set i (.val x)) R) →
    (∀ ys : List D, ys.length = xs.length → (∀ y ∈ ys, P y) → Q (acc ++ ys)) → lcD (gdName i) dYes te env xs acc Q
  | [], acc, _, q => by
    have := q [] rfl fun y m => by cases m
    rw [List.append_nil] at this
    exact this
  | x :: xs, acc, h, q => by
    show if true = true then te (env.set i (.val x)) (fun y => y.noLst = true ∧ lcD (gdName i) dYes te env xs (acc ++ [y]) Q) else lcD (gdName i) dYes te env xs acc Q
    rw [if_pos rfl]
    refine h x List.mem_cons_self _ fun y hy => ⟨hP y hy, lcD_draw P hP xs (acc ++ [y]) (fun z m => h z (List.mem_cons_of_mem _ m)) fun ys hl hys => ?_⟩
    have := q (y :: ys) (by rw [List.length_cons, List.length_cons, hl]) fun z m => by
      rcases List.mem_cons.mp m with rfl | m
      · exact hy
      · exact hys z m
    rw [List.append_assoc]
    exact this
theorem rngD_cons {lo : Int} {n : Nat} : rngD lo (n + 1) = .int lo :: rngD (lo + 1) n := by
  unfold rngD
  rw [List.range_succ_eq_map, List.map_cons, List.map_map]
  congr 1
  · simp
  · apply List.map_congr_left
    intro a _
    show D.int (lo + ((a + 1 : Nat) : Int)) = D.int (lo + 1 + (a : Int))
    congr 1
    omega
theorem rng_lc {i : Nat} {tt : TTD} {te : TED} {env : DEnv} {Q : List D → Prop} {xs : List D} (p : List D → D → Bool) (f : List D → D → D)
    (h : ∀ pre d suf (R : Option D → Prop), xs = pre ++ d :: suf → R (if p pre d = true then some (f pre d) else none) → tt (env.set i (.val (.int pre.length))) fun b => if b = true then te (env.set i (.val (.int pre.length))) fun y => y.noLst = true ∧ R (some y) else R none) :
    ∀ suf pre acc, xs = pre ++ suf → Q (acc ++ sel p f pre suf) → lcD (gdName i) tt te env (rngD pre.length suf.length) acc Q
  | [], pre, acc, e, q => by
    show Q acc
    simpa [sel] using q
  | d :: suf, pre, acc, e, q => by
    rw [List.length_cons, rngD_cons]
    show tt (env.set i (.val (.int pre.length))) fun b => if b = true then te (env.set i (.val (.int pre.length))) fun y => y.noLst = true ∧ lcD (gdName i) tt te env (rngD (pre.length + 1) suf.length) (acc ++ [y]) Q else lcD (gdName i) tt te env (rngD (pre.length + 1) suf.length) acc Q
    refine h pre d suf (fun o => match o with | some y => lcD (gdName i) tt te env (rngD (pre.length + 1) suf.length) (acc ++ [y]) Q | none => lcD (gdName i) tt te env (rngD (pre.length + 1) suf.length) acc Q) e ?_
    have hl : (pre.length : Int) + 1 = ((pre ++ [d]).length : Int) := by simp
    rw [hl]
    cases hp : p pre d with
    | true =>
      rw [if_pos rfl]
      exact rng_lc p f h suf (pre ++ [d]) (acc ++ [f pre d]) (by rw [e]; simp) (by simpa [sel, hp] using q)
    | false =>
      rw [if_neg (by decide)]
      exact rng_lc p f h suf (pre ++ [d]) acc (by rw [e]; simp) (by simpa [sel, hp] using q)
theorem atI_ok {α : Type} {xs : List α} {i : Int} (h0 : 0 ≤ i) (h1 : i < xs.length) : ∃ x, atI xs i = some x ∧ x ∈ xs := by
  have hlt : i.toNat < xs.length := by omega
  refine ⟨xs[i.toNat], ?_, List.getElem_mem hlt⟩
  unfold atI ixN
  rw [if_pos h0, if_pos h1]
  simp [List.getElem?_eq_getElem hlt]
theorem eqD_refl {d : D} (h : d.good = true) : eqD d d = true := SeqAt.eqv_refl d.py (py_can d h)
theorem rng_loop {i : Nat} {tb : TSD} {Dd : DEnds} {xs : List D} (P : List D → DEnv → Prop)
    (step : ∀ pre d suf env nx, xs = pre ++ d :: suf → P pre env → (∀ env', P (pre ++ [d]) env' → nx env') → tb { Dd with nx := nx, ct := nx, bk := Dd.nx } (env.set i (.val (.int pre.length))))
    (end_ : ∀ env, P xs env → Dd.nx env) : ∀ suf pre env, xs = pre ++ suf → P pre env → forD (gdName i) tb Dd (rngD pre.length suf.length) env
  | [], pre, env, e, h => by
    rw [List.append_nil] at e
    subst e
    exact end_ env h
  | d :: suf, pre, env, e, h => by
    rw [List.length_cons, rngD_cons]
    refine step pre d suf env _ e h fun env' h' => ?_
    have := rng_loop P step end_ suf (pre ++ [d]) env' (by rw [e]; simp) h'
    rw [List.length_append] at this
    exact this
end Dl

namespace Dl
open PySem PySem.Spec PyProof.Rows L2
abbrev scrD (ds : List D) : D := .obj .scr (ds.map fun _ => "") ds
theorem scr_sq {K : PySem.W.Frag} {Av : Addr → Prop} {H : Hp} {v : V} {ns : List Str} {ds : List D} (h : Den K Av H v (.obj .scr ns ds)) : ∃ a ws, v = .ref a ∧ SqL K H a ws ∧ DenA K Av H ws ds := by
  simp only [Den] at h
  obtain ⟨ws, _, ⟨a, e, h⟩, dn⟩ := h
  refine ⟨a, ws, e, ?_, dn⟩
  rcases h with ⟨_, o, h⟩ | h
  · exact .inl (.inr ⟨o, h⟩)
  · exact h H
def bLenS : FC := fun xs Q => ∃ ns ds, xs = [.obj .scr ns ds] ∧ Q (.int ds.length)
theorem c_lenS {X : Cx} {I : HI} : RC X I (.builtin "len") bLenS := fun H xs ds Qd Q ok dn ⟨ns, es, e, h⟩ k => by
  subst e
  obtain ⟨v, rfl, d1⟩ := dn.one1
  obtain ⟨a, ws, rfl, sq, dn'⟩ := scr_sq d1
  rw [← dn'.len] at h
  exact rc_of call_len ⟨_, ws.length, rfl, .inl ⟨ws, sq, rfl⟩, k _ _ H (.refl ok) (by simp only [Den]) h⟩
theorem itd_scr {K : PySem.W.Frag} {a : Addr} {ns : List Str} {ds : List D} : ItD K (Itl K a) [(.ref a, .obj .scr ns ds)] ds := fun Av H hw _ => by
  obtain ⟨a', ws, e, sq, dn⟩ := scr_sq (hw _ List.mem_cons_self)
  cases e
  refine ⟨fun i hi => ?_, ws, sq, by rw [dn.len]; exact Nat.le_refl _⟩
  obtain ⟨v, q1, q2⟩ := dn.get (List.getElem?_eq_getElem hi)
  refine ⟨⟨ws, v, sq, q1⟩, fun x H' ⟨e, y⟩ => ?_⟩
  subst e
  have := y ws sq
  rw [q1] at this
  cases this
  exact ⟨Kp.refl, _, List.getElem?_eq_getElem hi, q2⟩
def idVarS (i : Nat) : TID := fun env Q => ∃ ns ds, env[i]? = some (.val (.obj .scr ns ds)) ∧ Q ds
theorem di_varS {X : Cx} {g : Gx} {tg : Expr} {p : Pos} (i : Nat) {x : Str} (hN : X.N[i]? = some x := by rfl) (hv : Vis X.env.scope x := by first | exact Or.inl rfl | exact Or.inr (Or.inl rfl) | exact Or.inr (Or.inr rfl)) (hd : (x == ("__debug__" : Str)) = false := by decide)
    (hcd : (x == ("__classdict__" : Str)) = false := by decide) : PID X g tg (.Name x p) (idVarS i) := pid_of (pi_seq (pe_var hN hv hd hcd)) fun b σ H env Qd R hd xl ⟨ns, ds, e, q⟩ k => by
  obtain ⟨oa, h1, h2, h3, h4⟩ := hd.slots
  obtain ⟨v, q1, q2⟩ := h3 i _ e
  obtain ⟨a, ws, rfl, sq, dn⟩ := scr_sq q2
  refine ⟨_, q1, .inl ⟨a, rfl, ⟨ws, sq⟩, k _ H [(.ref a, .obj .scr ns ds)] ds ⟨hd.len, hd.ext, oa, h1, h2, h3, fun p hp => ?_⟩ (.refl hd.ok) itd_scr q⟩⟩
  rcases List.mem_append.mp hp with z | z
  · rw [List.mem_singleton.mp z]; exact q2
  · exact h4 p z
def C_hand (K : PySem.W.Frag) : Ct := fun ds Q _ => ∃ (nm : List Str) (ns : List Int), ds = [.obj .scr nm (ns.map D.int)] ∧ ns.length ≤ 63 ∧ ∀ (cs : List Int) (t : Int), cs.length ≤ 63 → (∀ c ∈ cs, 0 ≤ c) → 0 ≤ t → t < 2 ^ 32 → Q (.lst [.lst (cs.map D.int), .int 0, .int 0, .int t])
def spLaw (K : PySem.W.Frag) : Sp := fun vs H Q _ => ∃ (a : Addr) (ns : List Int), vs = [.ref a] ∧ ns.length ≤ 63 ∧ Only H ∧ SqL K H a (ns.map V.int) ∧ ∀ H', Q (.bl true) H'
theorem hand_at {K : PySem.W.Frag} {H : Hp} {v : V} {cs : List Int} {t : Int} (h : Den K (fun _ => False) H v (.lst [.lst (cs.map D.int), .int 0, .int 0, .int t])) (hl : cs.length ≤ 63) (hp : ∀ c ∈ cs, 0 ≤ c) (t0 : 0 ≤ t) (t1 : t < 2 ^ 32) :
    ∃ hd c, v = .ref hd ∧ hd ≠ c ∧ HandAt hd c cs 0 0 t H := by
  simp only [Den] at h
  obtain ⟨hd, vs, rfl, hh, _, dn⟩ := h
  obtain ⟨v1, r1, rfl, d1, dn⟩ := dn.cons
  obtain ⟨v2, r2, rfl, d2, dn⟩ := dn.cons
  obtain ⟨v3, r3, rfl, d3, dn⟩ := dn.cons
  obtain ⟨v4, rfl, d4⟩ := dn.one1
  simp only [Den] at d1 d2 d3 d4
  subst d2 d3 d4
  obtain ⟨c, ws, rfl, hc, _, dw⟩ := d1
  have e := dw.ofInts
  subst e
  refine ⟨hd, c, rfl, fun z => ?_, hh, hc, hl, hp, Int.le_refl 0, by decide, Int.le_refl 0, t0, t1⟩
  subst z
  rw [hc] at hh
  have hh := HO.lst.inj (Option.some.inj hh)
  cases cs with
  | nil => cases hh
  | cons x xs => cases hh
theorem scr_den {K : PySem.W.Frag} {H : Hp} {a : Addr} {ns : List Int} (o : Only H) (h : SqL K H a (ns.map V.int)) : Den K (fun _ => False) H (.ref a) (scrD (ns.map D.int)) := by
  simp only [Den]
  refine ⟨ns.map V.int, by simp, ⟨a, rfl, ?_⟩, DenA.ints⟩
  rcases h with (h | ⟨u, h⟩) | h
  · rcases o a with z | ⟨u, xs, z⟩
    · rw [z] at h; cases h
    · rw [z] at h; cases h
  · exact .inl ⟨id, u, h⟩
  · exact .inr fun G => .inr h
theorem law_run {X : Cx} {rest : List Stmt} {td : Addr → TSD} {Q : VK} {H : Hp} {a : Addr} {ns : List Int} {σ : L2.St} {n : Nat} {W : WX}
    (hσ : σ = some (.ref a) :: none :: List.replicate n none)
    (hrest : ∀ hd c, hd ≠ c → PSsD X ⟨handI hd c, fun _ _ => False, W⟩ rest (td hd))
    (hC : ∀ hd, td hd ⟨fun _ => False, fun d => d = .bl true, fun _ => False, fun _ => False⟩ (.val (scrD (ns.map D.int)) :: .val (.ref hd) :: List.replicate n .no))
    (hl : ns.length ≤ 63) (o : Only H) (sq : SqL X.K H a (ns.map V.int)) (hQ : ∀ H', Q (.bl true) H') :
    tSeq (tAsg (tCall (spOf X.K HI.plain 1 (C_hand X.K)) [] E0 (tCons (tVar 0) tNil)) (gName 1)) (wSs X rest) { nx := fun _ H' => Q .non H', rt := Q } σ H := by
  subst hσ
  have ds := scr_den o sq
  refine ⟨_, rfl, [scrD (ns.map D.int)], fun d => ∃ (cs : List Int) (t : Int), cs.length ≤ 63 ∧ (∀ c ∈ cs, 0 ≤ c) ∧ 0 ≤ t ∧ t < 2 ^ 32 ∧ d = .lst [.lst (cs.map D.int), .int 0, .int 0, .int t], fun _ => False, rfl, .one ds, trivial, ⟨_, ns, rfl, hl, fun cs t h1 h2 h3 h4 => ⟨cs, t, h1, h2, h3, h4, rfl⟩⟩, fun v d H1 e1 dn ⟨cs, t, h1, h2, h3, h4, ed⟩ => ?_, fun _ _ _ _ _ z => z.elim⟩
  subst ed
  obtain ⟨hd, c, rfl, hne, Z⟩ := hand_at dn h1 h2 h3 h4
  have kp : Kp (fun _ => False) H H1 := e1.1
  have ok1 : (handI hd c).ok H1 := ⟨_, _, _, _, Z⟩
  have hd0 : DenE X.K (handI hd c) ⟨H1, []⟩ (some (.ref a) :: some (.ref hd) :: List.replicate n none) H1 (.val (scrD (ns.map D.int)) :: .val (.ref hd) :: List.replicate n .no) := by
    refine ⟨by simp, .refl ok1, fun _ => 0, fun i xs e => ?_, fun i j xs ys e => ?_, fun i d e => ?_, fun p hp => by cases hp⟩
    · match i, e with
      | 0, e => cases e
      | 1, e => cases e
      | i + 2, e =>
        simp only [List.getElem?_cons_succ, List.getElem?_replicate] at e
        split at e <;> cases e
    · match i, e with
      | 0, e => cases e
      | 1, e => cases e
      | i + 2, e =>
        simp only [List.getElem?_cons_succ, List.getElem?_replicate] at e
        split at e <;> cases e
    · match i, e with
      | 0, e =>
        cases e
        refine ⟨.ref a, rfl, ?_⟩
        have d1 : Den X.K (fun _ => False) H1 (.ref a) (scrD (ns.map D.int)) := Den.keep kp _ _ ds
        simp only [Den] at d1 ⊢
        obtain ⟨ws, hw, ⟨b, eb, hb⟩, dw⟩ := d1
        cases eb
        have ew := dw.ofInts
        subst ew
        refine ⟨_, hw, ⟨a, rfl, hb.imp (fun ⟨_, u, hu⟩ => ⟨fun z => ?_, u, hu⟩) id⟩, DenA.ints⟩
        rcases z with z | ⟨i, xs, e, _⟩
        · have z : a = hd := z
          rw [z, Z.h] at hu
          cases hu
        · match i, e with
          | 0, e => cases e
          | 1, e => cases e
          | i + 2, e =>
            simp only [List.getElem?_cons_succ, List.getElem?_replicate] at e
            split at e <;> cases e
      | 1, e =>
        cases e
        exact ⟨.ref hd, rfl, by simp only [Den]⟩
      | i + 2, e =>
        simp only [List.getElem?_cons_succ, List.getElem?_replicate] at e
        split at e <;> cases e
  refine hrest hd c hne ⟨H1, []⟩ _ H1 _ _ _ hd0 (fun _ _ _ _ _ _ _ _ _ z => z.elim) (hC hd) ⟨fun _ _ _ _ z => z.elim, fun v d H2 e2 dn2 ed => ?_, fun _ _ _ _ z => z.elim, fun _ _ _ _ z => z.elim⟩
  subst ed
  simp only [Den] at dn2
  subst dn2
  exact hQ H2
theorem law_cx0 {P : Program} {w : World} {K : PySem.W.Frag} {mg : Str → Option Value} {base : Heap} {k : Nat} {f : Addr} {fd : FuncData} {ps : List Str} (F : FnOk P w K mg base (L2.CX P w) k f fd ps (spLaw K)) : FnOk P w K mg base CX0 k f fd ps (spLaw K) :=
  ⟨F.len, fun A outer s H args us vs Q E hr he hb hv hs => codeAny_mono (F.run A outer s H args us vs Q E0 hr he hb hv hs) fun r s' h => by
    cases r with
    | error e =>
      have h : L2.CX P w outer H s E0 e s' := h
      obtain ⟨_, _, _, _, _, _, _, _, _, _, _, _, z⟩ := h
      exact z.elim
    | ok fl => cases fl <;> exact h⟩
end Dl

namespace Dl
open PySem PySem.Spec PyProof.Rows L2
section
variable {X : Cx} {g : Gx} {e tg : Expr} {td : TED} {gd : TGD} {pos : Pos} {I : HI}
end
end Dl

namespace Dl
open PySem PySem.Spec PyProof.Rows L2
section
variable {X : Cx} {x : Str} {e : Expr} {es : List Expr} {ta : L2.TA} {p pos : Pos}
end
section
variable {X : Cx} {pins : List (Addr × Obj)} {σ : L2.St} {H : Hp} {s : Shared} {Av : Addr → Prop}
end
section
variable {X : Cx} {I : HI} {g : Gx} {e : Expr} {te : TED} {pos p : Pos} {n y : Str}
end
end Dl

namespace Dl
open PySem PySem.Spec PyProof.Rows L2 He
structure Er0 (K : PySem.W.Frag) (mg : Str → Option Value) (x : Str) : Prop where
  q : PySem.W.excIn K (ga K x) [.type "ValueError", .type "Exception", .type "BaseException", .type "object"] "ValueError.__new__" = true
  k : PySem.W.keepIn K (.ref (ga K x)) = true
  m : mg x = some (.ref (ga K x))
def er0B (K : PySem.W.Frag) (x : Str) : Bool := PySem.W.excIn K (ga K x) [.type "ValueError", .type "Exception", .type "BaseException", .type "object"] "ValueError.__new__" && PySem.W.keepIn K (.ref (ga K x))
section
variable {X : Cx} {g : Gx} {e e2 : Expr} {td t1 t2 : TED} {pos p : Pos} {x fl f1 f2 : Str} {j : Nat}
end
end Dl

namespace Dl
open PySem PySem.Spec PyProof.Rows L2
section
variable {P : Program} {w : World} {K : PySem.W.Frag} {mg : Str → Option Value} {base : Heap} {x qual : Str} {params : Arguments} {body : List Stmt} {scope : Scope} {dvs : List V} {kws : List (Str × V)} {f : Addr} {fd : FuncData} {CX : CXT} {N ps : List Str} {sp : Sp} {A : Around} {k : Nat}
end
section
variable {P : Program} {w : World} {K : PySem.W.Frag} {mg mb : Str → Option Value} {fa a : Addr} {s₁ : Shared} {vs : List Value} {ns : List Int}
end
end Dl

namespace Ns
open PySem PySem.Spec PyProof.Rows L2
abbrev Key := NestedKey
mutual
/-- no text within -/
def dry : Key → Bool
  | .none => true | .num _ => true | .text _ => false | .tup ks => dryA ks
def dryA : List Key → Bool
  | [] => true
  | k :: ks => dry k && dryA ks
end
section
variable {h h' : Heap} {k : Key} {b : Addr}
end
section
variable {P : Program} {w : World} {A : Around} {E : Value → Shared → Prop} {s : Shared}
end
end Ns

namespace Ns
open PySem PySem.Spec PyProof.Rows L2
section
variable {P : Program} {w : World} {A : Around} {E : Value → Shared → Prop} {s : Shared} {a : Addr} {L : List (Addr × Key)} {es : Array (Int × Value)} {ep : Nat} {t : SetTable}
theorem fits_by {n : Nat} (h1 : t.place.size = n) (h2 : t.dummies = #[]) (h3 : n ≤ t.mask) : t.fits n = true := by
  have e : t.dummies.size = 0 := by rw [h2]; rfl
  simp [SetTable.fits, SetTable.fill, h1, e, h3]
end
end Ns

namespace Ns
open PySem PySem.Spec PyProof.Rows L2
section
variable {P : Program} {w : World} {A : Around} {E : Value → Shared → Prop} {s : Shared} {a : Addr} {L : List (Addr × Key)} {es : Array (Int × Value)} {ep : Nat} {t : SetTable}
end
end Ns

namespace Ns
open PySem PySem.Spec PyProof.Rows L2
section
variable {X : Cx} {O0 : Addr → HO} {Ad : Addr → V → Hp → (Hp → Prop) → Prop}
end
end Ns

namespace Ns
open PySem PySem.Spec PyProof.Rows L2
theorem perm_lift {α β : Type} (f : α → β) {l : List β} : ∀ {M : List α}, l.Perm (M.map f) → ∃ M' : List α, M'.Perm M ∧ l = M'.map f := by
  intro M h
  generalize hm : M.map f = r at h
  induction h generalizing M with
  | nil =>
    cases M with
    | nil => exact ⟨[], .nil, rfl⟩
    | cons x M => cases hm
  | @cons x l r h ih =>
    cases M with
    | nil => cases hm
    | cons y M =>
      obtain ⟨rfl, rfl⟩ := List.cons.inj hm
      obtain ⟨M', p, rfl⟩ := ih rfl
      exact ⟨y :: M', p.cons y, rfl⟩
  | swap x y l =>
    match M, hm with
    | a :: b :: M, hm =>
      obtain ⟨rfl, h2⟩ := List.cons.inj hm
      obtain ⟨rfl, rfl⟩ := List.cons.inj h2
      exact ⟨b :: a :: M, .swap a b M, rfl⟩
  | trans _ _ ih1 ih2 =>
    obtain ⟨M2, p2, rfl⟩ := ih2 hm
    obtain ⟨M1, p1, rfl⟩ := ih1 rfl
    exact ⟨M1, p1.trans p2, rfl⟩
abbrev toks (x : PyData) : List (Int ⊕ List Nat) := PySem.W.keyToks x
theorem dlt_swo {α : Type} (f : α → PyData) : SrtO.Swo fun x y => PySem.W.dataLt (f x) (f y) where
  asym x y h := by
    rcases SrtO.bcase (PySem.W.dataLt (f y) (f x)) with e | e
    · have := PyProof.Rows.lex_trans (O := PyProof.Rows.itemOrd) _ _ _ h e
      rw [PyProof.Rows.lex_irrefl] at this
      cases this
    · exact e
  tr x y z h1 h2 := by
    rcases SrtO.bcase (PySem.W.dataLt (f z) (f x)) with e | e
    · rcases PyProof.Rows.lex_negTrans (O := PyProof.Rows.itemOrd) _ (toks (f y)) _ e with q | q
      · exact absurd q (by rw [show PyProof.Rows.lexLt PyProof.Rows.itemOrd (PySem.W.keyToks (f z)) (toks (f y)) = PySem.W.dataLt (f z) (f y) from rfl, h2]; decide)
      · exact absurd q (by rw [show PyProof.Rows.lexLt PyProof.Rows.itemOrd (toks (f y)) (PySem.W.keyToks (f x)) = PySem.W.dataLt (f y) (f x) from rfl, h1]; decide)
    · exact e
structure Gath (s : Shared) (us vs : List Value) (s1 : Shared) : Prop where
  perm : vs.Perm us
  keep : ∀ b o, s.heap.get? b = some o → s1.heap.get? b = some o
  gens : s1.gens = s.gens
  os : s1.os = s.os
open Classical in
noncomputable def datumOf (h : Heap) (ds : List PyData) (v : Value) : PyData := if q : ∃ d, d ∈ ds ∧ ∃ as, Reads h v d as then q.choose else .none
theorem datumOf_eq {h : Heap} {ds : List PyData} (al : PySem.W.AllAlike ds) {v : Value} {d : PyData} {as : List Addr} (hd : d ∈ ds) (r : Reads h v d as) : datumOf h ds v = d := by
  have q : ∃ d, d ∈ ds ∧ ∃ as, Reads h v d as := ⟨d, hd, as, r⟩
  unfold datumOf
  rw [dif_pos q]
  obtain ⟨h1, as', h2⟩ := q.choose_spec
  exact PySem.W.alike_unique _ _ _ _ _ (al _ h1 _ hd) h2 r
theorem each_of {R : Value → PyData → Prop} : ∀ {M : List (Value × PyData)}, (∀ m ∈ M, R m.1 m.2) → PySem.W.EachIs R (M.map (·.1)) (M.map (·.2))
  | [], _ => .nil
  | m :: M, h => .cons (h m List.mem_cons_self) (each_of fun x hx => h x (List.mem_cons_of_mem _ hx))
section
variable {P : Program} {w : World} {A : Around} {E : Value → Shared → Prop} {s : Shared}
theorem able_data {h : Heap} {M : List (Value × PyData)} (rd : ∀ m ∈ M, ∃ as, Reads h m.1 m.2 as) (al : PySem.W.AllAlike (M.map (·.2))) (so : PySem.W.Sortable (M.map (·.2))) (room : ∀ m ∈ M, A.units + m.2.depth < cLine) {a : Addr} {vs : List Value} (pv : vs.Perm (M.map (·.1))) (h2 : 2 ≤ vs.length)
    (old : ∀ b o, h.get? b = some o → b ≠ a ∧ s.heap.get? b = some o) : SrtO.SortableO P w A s a vs fun v u => PySem.W.dataLt (datumOf h (M.map (·.2)) v) (datumOf h (M.map (·.2)) u) := by
  obtain ⟨M1, pm, rfl⟩ := perm_lift (fun m : Value × PyData => m.1) pv
  have md : ∀ m ∈ M1, m.2 ∈ M.map (·.2) := fun m hm => List.mem_map_of_mem (pm.mem_iff.mp hm)
  have back : ∀ d ∈ M1.map (·.2), d ∈ M.map (·.2) := fun d hd => by
    obtain ⟨m, hm, rfl⟩ := List.mem_map.mp hd
    exact md m hm
  intro h' keep
  have rd' : ∀ m ∈ M1, ∃ as, Reads h' m.1 m.2 as := fun m hm => by
    obtain ⟨as, r⟩ := rd m (pm.mem_iff.mp hm)
    exact ⟨as, PyProof.Rows.Reads.keeps (hk := fun b o e => keep b o (old b o e).1 (old b o e).2) r⟩
  have S := PySem.W.SortsAt.data (prog := P) (w := w) (A := A) (s := { s with heap := h' }) (each_of rd') (fun d hd d' hd' => al d (back d hd) d' (back d' hd')) (so.imp (fun f d hd => f d (back d hd)) (fun f d hd => f d (back d hd))) fun d hd => by
    obtain ⟨m, hm, rfl⟩ := List.mem_map.mp hd
    exact room m (pm.mem_iff.mp hm)
  obtain ⟨kd, lt, kind⟩ := S.kind
  refine ⟨kd, fun Q E q => kind h2 E q, fun p q hp hq => ?_⟩
  obtain ⟨m, hm, e1⟩ := List.mem_map.mp hp
  obtain ⟨n, hn, e2⟩ := List.mem_map.mp hq
  obtain ⟨as, r1⟩ := rd' m hm
  obtain ⟨bs, r2⟩ := rd' n hn
  have al1 : PySem.W.AllAlike (M1.map (·.2)) := fun d hd d' hd' => al d (back d hd) d' (back d' hd')
  have k1 := PySem.W.dataKind_some al1 (List.mem_map_of_mem hm) r1
  have k2 := PySem.W.dataKind_some al1 (List.mem_map_of_mem hn) r2
  rw [← e1, ← e2]
  refine lt _ _ _ _ _ k1 k2 ⟨rfl, ?_⟩
  obtain ⟨as0, r10⟩ := rd m (pm.mem_iff.mp hm)
  obtain ⟨bs0, r20⟩ := rd n (pm.mem_iff.mp hn)
  show _ = PySem.W.dataLt (datumOf h (M.map (·.2)) p.1) (datumOf h (M.map (·.2)) q.1)
  rw [← e1, ← e2, datumOf_eq al (md m hm) r10, datumOf_eq al (md n hn) r20]
  rfl
theorem sorted_data {v : Value} {M : List (Value × PyData)} {Q : Value → Shared → Prop} (gather : ∀ (E' : Value → Shared → Prop) (R : List Value → Shared → Prop), (∀ vs s1, Gath s (M.map (·.1)) vs s1 → R vs s1) → wpAny (model P w) A.in1 (collect v) R E' s)
    (rd : ∀ m ∈ M, ∃ as, Reads s.heap m.1 m.2 as) (al : PySem.W.AllAlike (M.map (·.2))) (so : PySem.W.Sortable (M.map (·.2))) (room : ∀ m ∈ M, A.in1.in1.units + m.2.depth < cLine) (few : M.length ≤ sizeLine)
    (fin : ∀ (M' : List (Value × PyData)) (p : Addr) (s2 : Shared) (c : Nat), M'.Perm M → M'.Pairwise (fun x y => PySem.W.dataLt y.2 x.2 = false) → (∀ b o, s.heap.get? b = some o → s2.heap.get? b = some o) → s2.gens = s.gens → s2.os = s.os → s.heap.get? p = none → s2.heap.get? p = some (seqObj "list" (M'.map (·.1)).toArray c) → Q (.ref p) s2) :
    wpAny (model P w) A (call (.builtin "sorted") [v]) Q E s := by
  refine SrtT.sorted_any (dlt_swo (datumOf s.heap (M.map (·.2)))) (Gath s (M.map (·.1))) gather (fun vs s1 g => ?_) (fun vs s1 g h2 h3 a old => ?_) fun vs s1 g out s2 sd st af => ?_
  · rw [g.perm.length_eq, List.length_map]; exact few
  · exact able_data rd al so room g.perm h2 fun b o e => old b o (g.keep b o e)
  · obtain ⟨M', pm, rfl⟩ := perm_lift (fun m : Value × PyData => m.1) (st.perm.trans g.perm)
    obtain ⟨h4, rfl, keep4, c, hc⟩ := af
    have md : ∀ m ∈ M', m.2 ∈ M.map (·.2) := fun m hm => List.mem_map_of_mem (pm.mem_iff.mp hm)
    refine fin M' _ _ c pm ?_ (fun b o e => keep4 b o (g.keep b o e)) g.gens g.os ?_ hc
    · refine (List.pairwise_map.mp sd).imp_of_mem fun {m n} hm hn hlt => ?_
      obtain ⟨as, r1⟩ := rd m (pm.mem_iff.mp hm)
      obtain ⟨bs, r2⟩ := rd n (pm.mem_iff.mp hn)
      dsimp only at hlt
      rw [datumOf_eq al (md m hm) r1, datumOf_eq al (md n hn) r2] at hlt
      exact hlt
    · cases z : s.heap.get? s1.heap.objs.size with
      | none => rfl
      | some o => exact absurd (Heap.lt_size (g.keep _ o z)) (Nat.lt_irrefl _)
end
end Ns

namespace Ns
open PySem PySem.Spec PyProof.Rows L2 Dl
mutual
def keyD : D → Key
  | .int i => .num i
  | .tup xs => .tup (keysD xs)
  | .non => .none | .bl _ => .none | .str _ => .none | .lst _ => .none | .ref _ => .none | .ty _ => .none | .obj _ _ _ => .none
def keysD : List D → List Key
  | [] => []
  | x :: xs => keyD x :: keysD xs
end
mutual
/-- None, a whole number, a tuple of such -/
def kok : D → Bool
  | .non => true | .int _ => true | .tup xs => kokA xs
  | .bl _ => false | .str _ => false | .lst _ => false | .ref _ => false | .ty _ => false | .obj _ _ _ => false
def kokA : List D → Bool
  | [] => true
  | x :: xs => kok x && kokA xs
end
mutual
theorem keyD_inj : ∀ x y : D, kok x = true → kok y = true → keyD x = keyD y → x = y
  | .non, y, _, k, e => by cases y <;> first | rfl | (simp [keyD] at e; done) | (simp [kok] at k; done)
  | .int i, y, _, k, e => by cases y <;> first | (simp only [keyD, NestedKey.num.injEq] at e; rw [e]; done) | (simp [keyD] at e; done) | (simp [kok] at k; done)
  | .tup xs, y, h, k, e => by
    cases y with
    | tup ys =>
      simp only [keyD, NestedKey.tup.injEq] at e
      rw [keysD_inj xs ys (by simpa only [kok] using h) (by simpa only [kok] using k) e]
    | _ => first | (simp [keyD] at e; done) | (simp [kok] at k; done)
  | .bl _, _, h, _, _ => by simp [kok] at h
  | .str _, _, h, _, _ => by simp [kok] at h
  | .lst _, _, h, _, _ => by simp [kok] at h
  | .ref _, _, h, _, _ => by simp [kok] at h
  | .ty _, _, h, _, _ => by simp [kok] at h
  | .obj _ _ _, _, h, _, _ => by simp [kok] at h
theorem keysD_inj : ∀ xs ys : List D, kokA xs = true → kokA ys = true → keysD xs = keysD ys → xs = ys
  | [], [], _, _, _ => rfl
  | [], y :: ys, _, _, e => by simp [keysD] at e
  | x :: xs, [], _, _, e => by simp [keysD] at e
  | x :: xs, y :: ys, h, k, e => by
    simp only [kokA, Bool.and_eq_true] at h k
    simp only [keysD, List.cons.injEq] at e
    rw [keyD_inj x y h.1 k.1 e.1, keysD_inj xs ys h.2 k.2 e.2]
end
mutual
theorem keyD_dry : ∀ x : D, kok x = true → dry (keyD x) = true ∧ (keyD x).depth = x.dep
  | .non, _ => ⟨rfl, rfl⟩
  | .int i, _ => ⟨rfl, rfl⟩
  | .tup xs, h => by
    obtain ⟨a, b⟩ := keysD_dry xs (by simpa only [kok] using h)
    exact ⟨by simpa only [keyD, dry] using a, by simp only [keyD, NestedKey.depth, D.dep, b]⟩
  | .bl _, h => by simp [kok] at h
  | .str _, h => by simp [kok] at h
  | .lst _, h => by simp [kok] at h
  | .ref _, h => by simp [kok] at h
  | .ty _, h => by simp [kok] at h
  | .obj _ _ _, h => by simp [kok] at h
theorem keysD_dry : ∀ xs : List D, kokA xs = true → dryA (keysD xs) = true ∧ NestedKey.depthAll (keysD xs) = depA xs
  | [], _ => ⟨rfl, rfl⟩
  | x :: xs, h => by
    simp only [kokA, Bool.and_eq_true] at h
    obtain ⟨a, b⟩ := keyD_dry x h.1
    obtain ⟨c, d⟩ := keysD_dry xs h.2
    exact ⟨by simp only [keysD, dryA, a, c, Bool.and_self], by simp only [keysD, NestedKey.depthAll, depA, b, d]⟩
end
section
variable {X : Cx} {pins : List (Addr × Obj)} {σ : L2.St} {H : Hp} {s : Shared} {Av : Addr → Prop}
mutual
theorem den_key (I : Inv X pins σ H s) : ∀ (d : D) (v : V) (u : Value), kok d = true → Den X.K Av H v d → RelV v u → NestedIs s.heap (keyD d) u
  | .non, v, u, _, h, r => by
    simp only [Den] at h
    subst h
    cases r
    exact .none
  | .int i, v, u, _, h, r => by
    simp only [Den] at h
    subst h
    obtain ⟨t, rfl⟩ := r
    exact .int i t
  | .tup xs, v, u, k, h, r => by
    simp only [Den] at h
    obtain ⟨a, vs, rfl, sq, _, dn⟩ := h
    cases r
    obtain ⟨its, rv, ⟨o, ho, hc, n, hd⟩, _⟩ := I.tuple sq
    exact .tup ho hc hd (by simpa using denA_key I xs vs its (by simpa only [kok] using k) dn rv)
  | .bl _, _, _, h, _, _ => by simp [kok] at h
  | .str _, _, _, h, _, _ => by simp [kok] at h
  | .lst _, _, _, h, _, _ => by simp [kok] at h
  | .ref _, _, _, h, _, _ => by simp [kok] at h
  | .ty _, _, _, h, _, _ => by simp [kok] at h
  | .obj _ _ _, _, _, h, _, _ => by simp [kok] at h
theorem denA_key (I : Inv X pins σ H s) : ∀ (ds : List D) (vs : List V) (us : List Value), kokA ds = true → DenA X.K Av H vs ds → Vals vs us → NestedAll s.heap (keysD ds) us
  | [], vs, us, _, h, r => by
    simp only [DenA] at h
    subst h
    cases r
    exact .nil
  | d :: ds, vs, us, k, h, r => by
    simp only [kokA, Bool.and_eq_true] at k
    simp only [DenA] at h
    obtain ⟨v, w, rfl, h1, h2⟩ := h
    cases r with
    | cons r1 r2 => exact .cons (den_key I d v _ k.1 h1 r1) (denA_key I ds w _ k.2 h2 r2)
end
end
structure Mem (K : PySem.W.Frag) (Av : Addr → Prop) (H : Hp) (m : Addr × D) : Prop where
  den : Den K Av H (.ref m.1) m.2
  ok : kok m.2 = true
  low : m.2.dep ≤ 8
theorem Mem.weak {K : PySem.W.Frag} {Av Bv : Addr → Prop} {H : Hp} {m : Addr × D} (x : Mem K Av H m) (s : ∀ a, Bv a → Av a) : Mem K Bv H m := ⟨Den.weak s _ _ x.den, x.ok, x.low⟩
theorem Mem.keep {K : PySem.W.Frag} {Av : Addr → Prop} {H H' : Hp} {m : Addr × D} (x : Mem K Av H m) (k : Kp Av H H') : Mem K Av H' m := ⟨Den.keep k _ _ x.den, x.ok, x.low⟩
abbrev kp (m : Addr × D) : Addr × Key := (m.1, keyD m.2)
section
variable {X : Cx}
end
end Ns

namespace Ns
open PySem PySem.Spec PyProof.Rows L2 Dl
def SetV (w : World) (h : Heap) (a : Addr) (bs : List Addr) : Prop := ∃ (es : Array (Int × Value)) (ep : Nat) (t : SetTable), SetAt h a es ep t ∧ es.toList.map (·.2) = bs.map Value.ref ∧ t.fits es.size = true ∧ es.size < scanBound ∧ Ris t.place.toList ∧ (w.params.followText "set-order" = true ∨ t.led = true)
structure SetA (X : Cx) (I : HI) (H : Hp) (a : Addr) (ds : List D) : Prop where
  ex : ∃ (ho : HO) (M : List (Addr × D)), H a = some ho ∧ (∀ h H', ObjOk X.prog X.w H' h a ho → SetV X.w h a (M.map (·.1)) ∧ (M.map (·.2)).Nodup ∧ M.length < 64) ∧ M.map (·.2) = ds ∧ ∀ m ∈ M, Mem X.K I.own H m
abbrev TZD := DEnv → (List D → Prop) → Prop
def SZ (X : Cx) (g : Gx) (te : TE) (tz : TZD) : Prop :=
  ∀ (b : B0) (σ : L2.St) (H : Hp) (env : DEnv) (Qd : List D → Prop) (Q : VK), DenE X.K g.I b σ H env → XL X.K g b → tz env Qd → (∀ a ds H', Ext g.I H H' → SetA X g.I H' a ds → Qd ds → Q (.ref a) H') → te σ H Q
def PZD (X : Cx) (g : Gx) (e : Expr) (tz : TZD) : Prop := SZ X g (wE X e) tz
theorem pzd_of {X : Cx} {g : Gx} {e : Expr} {te : TE} {tz : TZD} (p : PE X e te) (h : SZ X g te tz) : PZD X g e tz := fun b σ H env Qd Q hd xl ht k pins s J => p.run pins s σ H Q J (h b σ H env Qd Q hd xl ht k)
mutual
/-- what holds a tuple is no set -/
theorem den_off {K : PySem.W.Frag} {Av : Addr → Prop} {H : Hp} {S : Addr} {o : HO} (hS : H S = some o) (no : ∀ xs, o ≠ .tup xs) : ∀ (d : D) (v : V), kok d = true → Den K Av H v d → Den K (fun a => Av a ∨ a = S) H v d
  | .non, v, _, h => by simpa only [Den] using h
  | .int i, v, _, h => by simpa only [Den] using h
  | .tup xs, v, k, h => by
    simp only [Den] at h ⊢
    obtain ⟨a, vs, e, sq, tp, dn⟩ := h
    refine ⟨a, vs, e, sq, tp.imp (fun x => ⟨fun z => z.elim x.1 fun e => ?_, x.2⟩) id, denA_off hS no xs vs (by simpa only [kok] using k) dn⟩
    have x2 := x.2
    rw [e, hS] at x2
    exact no vs (Option.some.inj x2)
  | .bl _, _, h, _ => by simp [kok] at h
  | .str _, _, h, _ => by simp [kok] at h
  | .lst _, _, h, _ => by simp [kok] at h
  | .ref _, _, h, _ => by simp [kok] at h
  | .ty _, _, h, _ => by simp [kok] at h
  | .obj _ _ _, _, h, _ => by simp [kok] at h
theorem denA_off {K : PySem.W.Frag} {Av : Addr → Prop} {H : Hp} {S : Addr} {o : HO} (hS : H S = some o) (no : ∀ xs, o ≠ .tup xs) : ∀ (ds : List D) (vs : List V), kokA ds = true → DenA K Av H vs ds → DenA K (fun a => Av a ∨ a = S) H vs ds
  | [], vs, _, h => by simpa only [DenA] using h
  | d :: ds, vs, k, h => by
    simp only [kokA, Bool.and_eq_true] at k
    simp only [DenA] at h ⊢
    obtain ⟨v, r, e, h1, h2⟩ := h
    exact ⟨v, r, e, den_off hS no d v k.1 h1, denA_off hS no ds r k.2 h2⟩
end
section
variable {X : Cx} {g : Gx} {wi : TI} {gt : TG} {tt : TT} {te : TE} {vs : List Nat} {tid : TID} {gd : TGD} {td : TTD} {ed : TED}
end
section
variable {X : Cx} {g : Gx} {elt tg iter : Expr} {ifs : List Expr} {scope : Scope} {own : List (Str × Nat)} {pos : Pos} {gt : TG} {tid : TID} {gd : TGD} {td : TTD} {ed : TED}
end
end Ns

namespace Ns
open PySem PySem.Spec PyProof.Rows L2 Dl
abbrev tupI (ns : List Int) : D := .tup (ns.map D.int)
theorem refs_ints {K : PySem.W.Frag} {Av : Addr → Prop} {H : Hp} : ∀ {nss : List (List Int)} {vs : List V}, DenA K Av H vs (nss.map tupI) →
    ∃ ks : List (Addr × List Int), vs = ks.map (fun p => V.ref p.1) ∧ ks.map (·.2) = nss ∧ ∀ p ∈ ks, Den K Av H (.ref p.1) (tupI p.2) ∧ SqT K H p.1 (p.2.map V.int)
  | [], vs, h => ⟨[], by simpa [DenA] using h, rfl, fun p hp => by cases hp⟩
  | ns :: nss, vs, h => by
    obtain ⟨v, r, rfl, h1, h2⟩ := DenA.cons (show DenA K Av H vs (tupI ns :: nss.map tupI) from h)
    obtain ⟨ks, rfl, e, hk⟩ := refs_ints h2
    have h1' := h1
    simp only [Den] at h1
    obtain ⟨a, us, rfl, sq, _, dn⟩ := h1
    have e2 := dn.ofInts
    subst e2
    refine ⟨(a, ns) :: ks, rfl, by rw [List.map_cons, e], fun p hp => ?_⟩
    rcases List.mem_cons.mp hp with z | hp
    · rw [z]; exact ⟨h1', sq⟩
    · exact hk p hp
theorem ints_kok : ∀ ns : List Int, kokA (ns.map D.int) = true ∧ depA (ns.map D.int) = 0
  | [] => ⟨rfl, rfl⟩
  | n :: ns => by
    obtain ⟨a, b⟩ := ints_kok ns
    exact ⟨by simp only [List.map_cons, kokA, kok, a, Bool.and_self], by simp only [List.map_cons, depA, D.dep, b, Nat.max_self]⟩
theorem ints_inj : ∀ {a b : List Int}, a.map D.int = b.map D.int → a = b
  | [], [], _ => rfl
  | [], _ :: _, h => by cases h
  | _ :: _, [], h => by cases h
  | x :: a, y :: b, h => by
    obtain ⟨h1, h2⟩ := List.cons.inj h
    rw [D.int.inj h1, ints_inj h2]
theorem tupI_inj {a b : List Int} (h : tupI a = tupI b) : a = b := ints_inj (D.tup.inj h)
theorem setTO_V {P : Program} {w : World} {h : Heap} {a : Addr} {L : List (Addr × List Int)} (R : SetT0 P w h a L) : SetV w h a (L.map (·.1)) ∧ (L.map fun p => tupI p.2).Nodup ∧ L.length < 64 := by
  obtain ⟨es, ep, t, ⟨o, ho, hx, hd⟩, lay, tab, uni, _, led, gap, few⟩ := R.ex
  have n : es.size = L.length := by
    have := congrArg List.length lay
    simpa [rowsOf] using this
  have sz := tab.sz
  rw [List.length_map] at sz
  refine ⟨⟨es, ep, t, ⟨o, ho, hx.1, hd⟩, by rw [lay]; simp [rowsOf, Function.comp_def], by rw [n]; exact fits_by sz tab.dm (by omega), by rw [n]; exact Nat.lt_of_lt_of_le few (by decide), tab.ris, led⟩, ?_, few⟩
  have e : (L.map fun p => tupI p.2) = (L.map (·.2)).map tupI := by rw [List.map_map]; rfl
  rw [e]
  exact List.Pairwise.map _ (fun x y ne z => ne (tupI_inj z)) uni
def zSet (ta : TAD) : TZD := fun env Q => ta env fun xs => ∃ nss : List (List Int), xs = [.lst (nss.map tupI)] ∧ nss.length < 64 ∧ ∀ out : List D, (∀ d, d ∈ out ↔ d ∈ nss.map tupI) → Q out
section
variable {X : Cx} {g : Gx} {e : Expr} {tas : TAD} {p pos : Pos}
theorem z_set (hu : X.A.units + 64 < cLine) (hc : X.calm = true) (hg : Gl X "set") (hm : X.mg "set" = none) (ha : PAD X g [e] tas)
    (he : starEach [e] X.env = (false, eval e X.env) :: starEach [] X.env := by rfl) (hpl : (backTo pos (starEach [] X.env)).any (·.1) = false := by rfl) : PZD X g (.Call (.Name "set" p) [e] [] pos) (zSet tas) :=
  pzd_of (pe_callTy (cr_setOfT hc hu) hg hm boot_set pa_w (by decide) (by decide) he hpl) fun b σ H env Qd Q hd xl ht k => ha b σ H env _ _ hd xl ht fun vs ds H1 e1 dn ⟨nss, e, few, q⟩ => by
    subst e
    obtain ⟨v, rfl, d1⟩ := dn.one1
    simp only [Den] at d1
    obtain ⟨a, us, rfl, hl, na, r⟩ := d1
    obtain ⟨ks, rfl, e2, hk⟩ := refs_ints r
    have len : ks.length = nss.length := by rw [← e2, List.length_map]
    refine ⟨a, ks, rfl, SqL.of hl, fun p hp => (hk p hp).2, by omega, fun S L hS sub all => ?_⟩
    refine k S _ _ (e1.trans (.new e1.2 hS)) ⟨SetTO X.prog X.w S L, L.map (fun p => (p.1, tupI p.2)), upd_same, fun h G o => ?_, rfl, fun m hm => ?_⟩ (q _ fun d => ?_)
    · have R : SetT0 X.prog X.w h S L := o.1
      obtain ⟨r1, r2, r3⟩ := setTO_V R
      refine ⟨?_, ?_, ?_⟩
      · rw [List.map_map]; exact r1
      · rw [List.map_map]; exact r2
      · rw [List.length_map]; exact r3
    · obtain ⟨p, hp, rfl⟩ := List.mem_map.mp hm
      obtain ⟨c1, c2⟩ := ints_kok p.2
      exact ⟨Den.keep (Kp.new hS) _ _ (hk p (sub p hp)).1, by simpa only [kok] using c1, by simp only [D.dep, c2]; decide⟩
    · rw [List.map_map]
      have e3 : nss.map tupI = (ks.map (·.2)).map tupI := by rw [e2]
      rw [e3, List.map_map]
      constructor
      · intro z
        obtain ⟨p, hp, rfl⟩ := List.mem_map.mp z
        exact List.mem_map.mpr ⟨p, sub p hp, rfl⟩
      · intro z
        obtain ⟨p, hp, rfl⟩ := List.mem_map.mp z
        obtain ⟨p', hp', e4⟩ := List.mem_map.mp (all p hp)
        exact List.mem_map.mpr ⟨p', hp', congrArg tupI e4⟩
end
structure sortable (ds : List D) : Prop where
  al : PySem.W.AllAlike (ds.map D.py)
  so : PySem.W.Sortable (ds.map D.py)
  good : goodA ds = true
  low : ∀ d ∈ ds, d.dep ≤ 8
abbrev ascD (out : List D) : Prop := out.Pairwise fun x y => PySem.W.dataLt y.py x.py = false
theorem goodA_mem : ∀ {ds : List D}, goodA ds = true → ∀ d ∈ ds, d.good = true
  | d :: ds, h, x, hx => by
    simp only [goodA, Bool.and_eq_true] at h
    rcases List.mem_cons.mp hx with e | hx
    · rw [e]; exact h.1
    · exact goodA_mem h.2 x hx
theorem vals_each : ∀ {T : List (V × Value × D)}, (∀ t ∈ T, RelV t.1 t.2.1) → Vals (T.map (·.1)) (T.map fun t => t.2.1)
  | [], _ => .nil
  | t :: T, h => .cons (h t List.mem_cons_self) (vals_each fun x hx => h x (List.mem_cons_of_mem _ hx))
section
variable {X : Cx} {Av : Addr → Prop}
theorem sort_core (hu : X.A.units + 64 < cLine) {pins : List (Addr × Obj)} {σ : L2.St} {H : Hp} {s : Shared} (I : Inv X pins σ H s) {T : List (V × Value × D)} (rel : ∀ t ∈ T, RelV t.1 t.2.1) (den : ∀ t ∈ T, Den X.K Av H t.1 t.2.2) (so : sortable (T.map fun t => t.2.2)) (few : T.length ≤ sizeLine) {arg : Value} {Q : VK}
    (gather : ∀ (E' : Value → Shared → Prop) (R : List Value → Shared → Prop), (∀ vs s1, Gath s (T.map fun t => t.2.1) vs s1 → R vs s1) → wpAny (model X.prog X.w) X.A.in1 (collect arg) R E' s)
    (fin : ∀ (T' : List (V × Value × D)) (p : Addr), T'.Perm T → ascD (T'.map fun t => t.2.2) → H p = none → Q (.ref p) (upd H p (.lst (T'.map (·.1))))) : wpAny (model X.prog X.w) X.A (call (.builtin "sorted") [arg]) (EP X pins σ Q) X.xe s := by
  have e1 : (T.map fun t => (t.2.1, t.2.2.py)).map (·.1) = T.map fun t => t.2.1 := by rw [List.map_map]; rfl
  have e2 : (T.map fun t => (t.2.1, t.2.2.py)).map (·.2) = (T.map fun t => t.2.2).map D.py := by rw [List.map_map, List.map_map]; rfl
  refine sorted_data (M := T.map fun t => (t.2.1, t.2.2.py)) (by rw [e1]; exact gather) (fun m hm => ?_) (by rw [e2]; exact so.al) (by rw [e2]; exact so.so) (fun m hm => ?_) (by rw [List.length_map]; exact few) fun M' p s2 c pm asc keep g o hp hget => ?_
  · obtain ⟨t, ht, rfl⟩ := List.mem_map.mp hm
    exact Dp.reads I _ _ _ (Den.dp _ _ (goodA_mem so.good _ (List.mem_map_of_mem ht)) (den t ht)) (rel t ht)
  · obtain ⟨t, ht, rfl⟩ := List.mem_map.mp hm
    show _ + t.2.2.py.depth < _
    rw [py_dep]
    have := so.low _ (List.mem_map_of_mem ht)
    have e : X.A.in1.in1.units ≤ X.A.units + 8 := by simp [Around.in1]
    omega
  · obtain ⟨T', pt, rfl⟩ := perm_lift (fun t : V × Value × D => (t.2.1, t.2.2.py)) pm
    have hn : H p = none := I.hok.gone hp
    have rel' : ∀ t ∈ T', RelV t.1 t.2.1 := fun t ht => rel t (pt.mem_iff.mp ht)
    have nl : (T'.map (·.1)).length ≤ sizeLine := by rw [List.length_map, pt.length_eq]; exact few
    rw [List.map_map] at hget
    have J : Inv X pins σ (upd H p (.lst (T'.map (·.1)))) s2 := I.call' (ch := []) o (Un.laidN keep hp hn) (I.hok.laidN keep hn ⟨nl, T'.map fun t => t.2.1, c, vals_each rel', hget⟩) (by rw [g]; exact I.bare) (fun _ z => nomatch z)
    exact ⟨.ref p, _, J, rfl, fin T' p pt (List.pairwise_map.mpr (List.pairwise_map.mp asc)) hn⟩
def rSortZ (X : Cx) (I : HI) : List V → Hp → VK → Prop := fun vs H Q => ∃ (a : Addr) (ds : List D), vs = [.ref a] ∧ SetA X I H a ds ∧ (ds.Nodup → ds.length < 64 → sortable ds ∧
  ∀ (M : List (Addr × D)) (p : Addr), (M.map (·.2)).Perm ds → ascD (M.map (·.2)) → (∀ m ∈ M, Mem X.K I.own H m) → H p = none → Q (.ref p) (upd H p (.lst (M.map fun m => V.ref m.1))))
theorem cr_sortZ {I : HI} (hu : X.A.units + 64 < cLine) (hc : X.calm = true) : CallR X (.builtin "sorted") (rSortZ X I) := fun pins s σ H vs us Q J r h => by
  obtain ⟨a, ds, rfl, ⟨ho, M, hS, imp, rfl, mem⟩, h⟩ := h
  obtain ⟨⟨es, ep, t, sat, vals, fit, small, ris, led⟩, nd, few⟩ := imp _ _ (J.hok a _ hS)
  obtain ⟨so, fin⟩ := h nd (by rw [List.length_map]; exact few)
  rw [Vals.ref1 r]
  have e1 : (M.map fun m => (V.ref m.1, Value.ref m.1, m.2)).map (fun t => t.2.2) = M.map (·.2) := by rw [List.map_map]; rfl
  have e2 : (M.map fun m => (V.ref m.1, Value.ref m.1, m.2)).map (fun t => t.2.1) = (M.map (·.1)).map Value.ref := by rw [List.map_map, List.map_map]; rfl
  refine sort_core (T := M.map fun m => (V.ref m.1, Value.ref m.1, m.2)) (Av := I.own) hu J (fun t ht => ?_) (fun t ht => ?_) (by rw [e1]; exact so) (by rw [List.length_map]; exact Nat.le_trans (Nat.le_of_lt few) (by rw [sizeLine_eq]; omega)) (fun E' R k => ?_) fun T' p pm asc hn => ?_
  · obtain ⟨m, hm, rfl⟩ := List.mem_map.mp ht
    exact rfl
  · obtain ⟨m, hm, rfl⟩ := List.mem_map.mp ht
    exact (mem m hm).den
  · refine collect_set (A := X.A.in1) (J.ok.hd hc) sat fit small ris led fun s1 out k1 _ g1 o1 pm => k out s1 ⟨?_, k1, g1, o1⟩
    rw [e2, ← vals]
    exact pm
  · obtain ⟨M', pm', rfl⟩ := perm_lift (fun m : Addr × D => (V.ref m.1, Value.ref m.1, m.2)) pm
    have e3 : (M'.map fun m => (V.ref m.1, Value.ref m.1, m.2)).map (fun t => t.2.2) = M'.map (·.2) := by rw [List.map_map]; rfl
    rw [e3] at asc
    have := fin M' p (pm'.map (·.2)) asc (fun m hm => mem m (pm'.mem_iff.mp hm)) hn
    rw [List.map_map]
    exact this
end
section
variable {X : Cx} {g : Gx} {e : Expr} {tz : TZD} {p pos : Pos}
theorem mems_den {K : PySem.W.Frag} {Av : Addr → Prop} {H : Hp} : ∀ {M : List (Addr × D)}, (∀ m ∈ M, Mem K Av H m) → DenA K Av H (M.map fun m => V.ref m.1) (M.map (·.2))
  | [], _ => by simp [DenA]
  | m :: M, h => by
    show DenA K Av H (V.ref m.1 :: M.map fun m => V.ref m.1) (m.2 :: M.map (·.2))
    simp only [DenA]
    exact ⟨_, _, rfl, (h m List.mem_cons_self).den, mems_den fun x hx => h x (List.mem_cons_of_mem _ hx)⟩
def dSortZ (tz : TZD) : TED := fun env Q => tz env fun ds => ds.Nodup → ds.length < 64 → sortable ds ∧ ∀ out : List D, out.Perm ds → ascD out → Q (.lst out)
theorem d_sortZ (hu : X.A.units + 64 < cLine) (hc : X.calm = true) (hg : Gl X "sorted") (hm : X.mg "sorted" = none) (ha : PZD X g e tz)
    (he : starEach [e] X.env = (false, eval e X.env) :: starEach [] X.env := by rfl) (hpl : (backTo pos (starEach [] X.env)).any (·.1) = false := by rfl) : PED X g (.Call (.Name "sorted" p) [e] [] pos) (dSortZ tz) :=
  ped_of (pe_callB (cr_sortZ (I := g.I) hu hc) hg hm boot_sorted (pa_cons pe_w pa_nil he) (by decide) (by decide) he hpl) fun b σ H env Qd Q hd xl ht k =>
    ha b σ H env _ (fun v H' => rSortZ X g.I [v] H' Q) hd xl ht fun a ds H1 e1 sa q => ⟨a, ds, rfl, sa, fun nd few => by
      obtain ⟨so, fin⟩ := q nd few
      refine ⟨so, fun M p pm asc mem hn => k _ _ _ (e1.trans (.new e1.2 hn)) (new_lst e1.2 hn (mems_den mem)) (fin _ pm asc)⟩⟩
end
end Ns

namespace Ns
open PySem PySem.Spec PyProof.Rows L2 Dl HT
section
variable {prog : Program} {w : World} {A : Around} {E : Value → Shared → Prop} {s : Shared}
end
section
variable {X : Cx} {e st : Expr} {te ts : TE} {p2 pos : Pos}
theorem denA_rev {K : PySem.W.Frag} {Av : Addr → Prop} {H : Hp} : ∀ {ds : List D} {vs : List V}, DenA K Av H vs ds → DenA K Av H vs.reverse ds.reverse
  | [], vs, h => by
    cases h.nil
    exact h
  | d :: ds, vs, h => by
    obtain ⟨v, r, rfl, h1, h2⟩ := h.cons
    rw [List.reverse_cons, List.reverse_cons]
    exact (denA_rev h2).app (.one h1)
end
end Ns

namespace Ns
open PySem PySem.Spec PyProof.Rows L2 Dl
section
variable {X : Cx} {g : Gx} {e c a b : Expr} {td ta tb : TED} {tf : TFD} {t : TTD} {pos : Pos} {sc : Scope}
end
section
variable {X : Cx} {g : Gx} {elt tg iter : Expr} {ifs : List Expr} {scope : Scope} {own : List (Str × Nat)} {pos : Pos} {gt : TG} {tid : TID} {gd : TGD} {td : TTD} {ed : TED}
end
end Ns

namespace Zs
open PySem PySem.Spec PyProof.Rows L2
abbrev born (w : World) : Obj := { cls := .type "set", dict := none, data := .set #[] 0 (.fresh 0 0 (!w.params.followText "set-order")) }
abbrev withS (w : World) (s : Shared) : Shared := { s with heap := s.heap.push (born w) }
section
variable {P : Program} {w : World} {A : Around} {E : Value → Shared → Prop} {s : Shared}
def Made (w : World) (s : Shared) (ns : List Int) (r : Value) (s2 : Shared) : Prop :=
  r = .none ∧ ∃ (h' : Heap) (tk c : Nat), s2 = { s with heap := h', toks := tk } ∧ SetR w h' s.heap.objs.size (fun j => decide (j ∈ ns)) c ∧ c ≤ ns.length ∧ ∀ b o, s.heap.get? b = some o → h'.get? b = some o
theorem init_list {A : Around} {l : Addr} {items : Array Value} {ns : List Int} (hh : A.handled = none) (hl : s.heap.IsList l items) (hit : IntsAre items.toList ns) (hb : ns.length + 1 < scanBound) :
    codeAny (model P w) A (.call (.builtin "set.__init__") ⟨[.ref s.heap.objs.size, .ref l], []⟩) (wants (Made w s ns) E) (withS w s) := by
  have size : items.size = ns.length := by
    have q := IntsAre.length hit
    rwa [Array.length_toList] at q
  have atS : (s.heap.push (born w)).get? s.heap.objs.size = some (born w) := Heap.get?_push_size _ rfl
  obtain ⟨⟨c0, d0, x0, sl0⟩, ho, hc, n, hd⟩ := hl
  simp only at hc hd
  subst hc hd
  have lt : l < s.heap.objs.size := Heap.lt_size ho
  have ho' : (s.heap.push (born w)).get? l = some { cls := .type "list", dict := d0, data := .seq items n, slots := sl0 } := Heap.get?_push_of_some _ ho
  have isl : (s.heap.push (born w)).IsList l items := ⟨_, ho', rfl, n, rfl⟩
  have h1 := F.sub_list_set
  have h2 := F.sub_list_frozenset
  have h3 : (Value.type "list" == Value.type "dict") = false := by decide
  refine codeAny_call_builtin F.called_set.init.plain F.entry_set_init (check_set_init_1 ⟨_, atS, rfl⟩ ?_)
  unfold Builtin.«set.__init__» noKeywords Builtin.Frozenset.updateFrom
  generalize hI : pyIter = PI
  wp_walk
  subst hI
  refine wpAny_pyIter_list isl (wpAny_bind (wpAny_runValue ?_))
  have sz : (s.heap.push (born w)).objs.size = s.heap.objs.size + 1 := Heap.size_push ..
  have ne1 : l ≠ (s.heap.push (born w)).objs.size := by rw [sz]; exact Nat.ne_of_lt (Nat.lt_succ_of_lt lt)
  have ne2 : s.heap.objs.size ∉ [(s.heap.push (born w)).objs.size, l] := by
    rw [sz]
    simp only [List.mem_cons, List.not_mem_nil, or_false, not_or]
    exact ⟨Nat.ne_of_lt (Nat.lt_succ_self _), Nat.ne_of_gt lt⟩
  have val : ∀ (i : Nat) (v : Value), items[i]? = some v → ∃ k t, ns[i]? = some k ∧ v = .int k t := fun i v hv => by
    have hi : i < ns.length := by rw [← size]; exact (Array.getElem?_eq_some_iff.mp hv).1
    obtain ⟨t, e⟩ := IntsAre.int_at hit i v (by rw [Array.getElem?_toList]; exact hv)
    exact ⟨ns[i], t, List.getElem?_eq_getElem hi, by rw [e, List.getD_eq_getElem?_getD, List.getElem?_eq_getElem hi]; rfl⟩
  have hh2 : A.in1.in1.handled = none := by simp [hh]
  refine set_update_ints ((Walks.list hh2 _ l ne1 items).toS) s.heap.objs.size ne2 ns size hb val items.size 0 _ (by omega) (Nat.zero_le _) ⟨⟨_, Heap.get?_push_size _ rfl, rfl, rfl⟩, ?_⟩
    ⟨0, Nat.le_refl 0, setR_new_at (w := w) ?_⟩ ?_
  · exact isl.push _
  · exact Heap.get?_push_of_some _ atS
  rintro ⟨h', g2, d', tk', os'⟩ c hm hc' hS'
  have eg : g2 = s.gens := hm.gens
  have ed : d' = s.drawn := hm.drawn
  have eo : os' = s.os := hm.os
  subst eg ed eo
  show wpAny _ _ _ _ _ _
  refine wpAny_pure ?_
  show wpAny _ _ (ret Value.none) _ _ _
  rw [size] at hc'
  refine wpAny_pure ⟨rfl, h', tk', c, rfl, hS', hc', fun b o e => ?_⟩
  have lb : b < s.heap.objs.size := Heap.lt_size e
  refine hm.heap b o ?_ (Heap.get?_push_of_some _ (Heap.get?_push_of_some _ e))
  rw [sz]
  simp only [List.mem_cons, List.not_mem_nil, or_false, not_or]
  exact ⟨Nat.ne_of_lt lb, Nat.ne_of_lt (Nat.lt_succ_of_lt lb)⟩
theorem call_list {l : Addr} {items : Array Value} {ns : List Int} {Q : Value → Shared → Prop} (hh : A.handled = none) (hl : s.heap.IsList l items) (hit : IntsAre items.toList ns) (hb : ns.length + 1 < scanBound)
    (h : ∀ (h' : Heap) (tk c : Nat), SetR w h' s.heap.objs.size (fun j => decide (j ∈ ns)) c → c ≤ ns.length → (∀ b o, s.heap.get? b = some o → h'.get? b = some o) → Q (.ref s.heap.objs.size) { s with heap := h', toks := tk }) :
    wpAny (model P w) A (call (.type "set") [.ref l]) Q E s := by
  obtain ⟨_, _, m1⟩ := F.called_set.mro
  have m2 := F.called_set.made
  have m3 := F.called_set.sub
  have m4 := F.called_set.notType
  have m5 := F.called_set.canCreate
  have m6 := F.typeCall_set_1 (.ref l)
  refine wpAny_call (codeAny_of_tree ?_)
  show wpAny _ _ (callAny (.type "set") _) _ _ _
  refine wpAny_pure ⟨Code.quiet_builtin _ (by decide +kernel), codeAny_builtin F.entry_type_call ?_⟩
  rw [Around.under_plain (weight_type_call_type "set" [.ref l] []) rfl]
  repeat (any_goals (first | assumption | wp_step))
  refine codeAny_mono (code_set_led1 (.ref l) (E := E) (Q₁ := fun obj s₁ => obj = .ref s.heap.objs.size ∧ s₁ = withS w s) ⟨rfl, rfl⟩) fun r s1 hr => ?_
  rcases r with e | fl
  · exact hr
  cases fl with
  | ret obj =>
    obtain ⟨rfl, rfl⟩ := hr
    have atS : (s.heap.push (born w)).get? s.heap.objs.size = some (born w) := Heap.get?_push_size _ rfl
    have typ : Shared.TypeIs (withS w s) (.ref s.heap.objs.size) "set" := ⟨_, atS, rfl⟩
    have i1 := F.called_set.init.lookup
    have i2 := F.called_set.init.bind (.ref s.heap.objs.size)
    repeat (any_goals (first | assumption | wp_step))
    refine codeAny_mono (init_list (E := E) (by simp [hh]) hl hit hb) fun r2 s2 hr2 => ?_
    rcases r2 with e | fl2
    · exact hr2
    cases fl2 with
    | ret r =>
      obtain ⟨rfl, h', tk, c, rfl, a1, a2, a3⟩ := hr2
      repeat (any_goals (first | assumption | wp_step))
      exact h h' tk c a1 a2 a3
    | _ => exact hr2.elim
  | _ => exact hr.elim
end
end Zs

namespace Dl
open PySem PySem.Spec PyProof.Rows L2
abbrev tI (ns : List Int) : D := .tup (ns.map D.int)
end Dl

namespace Dl
open PySem PySem.Spec PyProof.Rows L2 Ns
theorem pyA_map (ns : List Int) : pyA (ns.map D.int) = ns.map PyData.int := by
  induction ns with
  | nil => rfl
  | cons n ns ih => simp only [List.map_cons, pyA, D.py, ih]
theorem tI_py (ns : List Int) : (tI ns).py = .tuple (ns.map PyData.int) := by simp only [D.py, pyA_map]
theorem alike_ints : ∀ a b : List Int, PySem.W.alikeAll (a.map PyData.int) (b.map PyData.int) = true
  | [], b => by cases b <;> simp [PySem.W.alikeAll]
  | x :: a, [] => by simp [PySem.W.alikeAll]
  | x :: a, y :: b => by simp [PySem.W.alikeAll, PySem.W.alike, alike_ints a b]
theorem alike_tI (a b : List Int) : PySem.W.alike (tI a).py (tI b).py = true := by
  rw [tI_py, tI_py]
  simpa [PySem.W.alike] using alike_ints a b
theorem good_ints : ∀ ns : List Int, goodA (ns.map D.int) = true ∧ depA (ns.map D.int) = 0 ∧ noLstA (ns.map D.int) = true
  | [] => ⟨rfl, rfl, rfl⟩
  | n :: ns => by
    obtain ⟨a, b, c⟩ := good_ints ns
    exact ⟨by simp only [List.map_cons, goodA, D.good, a, Bool.and_self], by simp only [List.map_cons, depA, D.dep, b, Nat.max_self], by simp only [List.map_cons, noLstA, D.noLst, c, Bool.and_self]⟩
theorem tI_good (ns : List Int) : (tI ns).good = true ∧ (tI ns).dep = 1 ∧ (tI ns).noLst = true := by
  obtain ⟨a, b, c⟩ := good_ints ns
  exact ⟨by simpa only [D.good] using a, by simp only [D.dep, b], by simpa only [D.noLst] using c⟩
theorem eqv_ints : ∀ a b : List Int, PyData.eqvAll (a.map PyData.int) (b.map PyData.int) = decide (a = b)
  | [], [] => by simp [PyData.eqvAll]
  | [], y :: b => by simp [PyData.eqvAll]
  | x :: a, [] => by simp [PyData.eqvAll]
  | x :: a, y :: b => by
    simp only [List.map_cons, PyData.eqvAll, PyData.eqv, eqv_ints a b]
    by_cases h : x = y <;> by_cases h2 : a = b <;> simp [h, h2]
theorem lexLt_ints : ∀ a b : List Int, PyProof.Rows.lexLt itemOrd (PySem.W.keyToksAll (a.map PyData.int)) (PySem.W.keyToksAll (b.map PyData.int)) = HT.lexLt a b
  | [], [] => by rw [PyProof.Rows.lex_irrefl]; rfl
  | [], y :: b => by
    rw [List.map_cons, PySem.W.toks_all_cons]
    simp only [List.map_nil, PySem.W.keyToksAll]
    rw [PyProof.Rows.lex_diff (O := itemOrd) (by simp)]
    rfl
  | x :: a, [] => by
    rw [List.map_cons, PySem.W.toks_all_cons]
    simp only [List.map_nil, PySem.W.keyToksAll]
    rw [PyProof.Rows.lex_diff (O := itemOrd) (by simp)]
    rfl
  | x :: a, y :: b => by
    rw [List.map_cons, List.map_cons]
    by_cases h : x = y
    · subst h
      rw [PySem.W.dataLt_all_yes (by simp [PySem.W.alike]) (by simp [PyData.eqv]), lexLt_ints a b, HT.lexLt_cons, if_pos rfl]
    · rw [PySem.W.dataLt_all_no (by simp [PySem.W.alike]) (by simp [PyData.eqv, h]), HT.lexLt_cons, if_neg h]
      unfold PySem.W.dataLt
      simp only [PySem.W.keyToks]
      rw [PyProof.Rows.lex_diff (O := itemOrd) (by simp [h])]
      rfl
theorem dataLt_tI (a b : List Int) : PySem.W.dataLt (tI a).py (tI b).py = HT.lexLt a b := by
  rw [tI_py, tI_py]
  unfold PySem.W.dataLt
  simp only [PySem.W.keyToks]
  exact lexLt_ints a b
end Dl

namespace Dl
open PySem PySem.Spec PyProof.Rows L2 Ns
theorem lexLt_irr (a : List Int) : HT.lexLt a a = false := by rw [← lexLt_ints, PyProof.Rows.lex_irrefl]
theorem lexLt_tr {a b c : List Int} (h1 : HT.lexLt a b = true) (h2 : HT.lexLt b c = true) : HT.lexLt a c = true := by
  rw [← lexLt_ints] at *
  exact PyProof.Rows.lex_trans _ _ _ h1 h2
theorem lexLt_tri : ∀ a b : List Int, HT.lexLt a b = false → HT.lexLt b a = false → a = b
  | [], [], _, _ => rfl
  | [], y :: b, h, _ => by cases h
  | x :: a, [], _, h => by cases h
  | x :: a, y :: b, h1, h2 => by
    rw [HT.lexLt_cons] at h1 h2
    by_cases e : x = y
    · subst e
      rw [if_pos rfl] at h1 h2
      rw [lexLt_tri a b h1 h2]
    · rw [if_neg e] at h1
      rw [if_neg (Ne.symm e)] at h2
      have := of_decide_eq_false h1
      have := of_decide_eq_false h2
      exact absurd (by omega) e
theorem sorted_eq {α : Type} {lt : α → α → Prop} (irr : ∀ a, ¬ lt a a) (tr : ∀ {a b c}, lt a b → lt b c → lt a c) : ∀ {l m : List α}, l.Pairwise lt → m.Pairwise lt → (∀ x, x ∈ l ↔ x ∈ m) → l = m
  | [], [], _, _, _ => rfl
  | [], y :: m, _, _, h => by have := (h y).mpr List.mem_cons_self; cases this
  | x :: l, [], _, _, h => by have := (h x).mp List.mem_cons_self; cases this
  | x :: l, y :: m, h1, h2, h => by
    obtain ⟨a1, b1⟩ := List.pairwise_cons.mp h1
    obtain ⟨a2, b2⟩ := List.pairwise_cons.mp h2
    have e : x = y := by
      rcases List.mem_cons.mp ((h x).mp List.mem_cons_self) with e | hx
      · exact e
      · rcases List.mem_cons.mp ((h y).mpr List.mem_cons_self) with e | hy
        · exact e.symm
        · exact absurd (tr (a1 y hy) (a2 x hx)) (irr x)
    subst e
    rw [sorted_eq irr tr b1 b2 fun z => ?_]
    constructor
    · intro hz
      rcases List.mem_cons.mp ((h z).mp (List.mem_cons_of_mem _ hz)) with e | q
      · subst e; exact absurd (a1 z hz) (irr z)
      · exact q
    · intro hz
      rcases List.mem_cons.mp ((h z).mpr (List.mem_cons_of_mem _ hz)) with e | q
      · subst e; exact absurd (a2 z hz) (irr z)
      · exact q
theorem lift_map {α β : Type} (f : α → β) {M : List α} : ∀ {l : List β}, (∀ d ∈ l, d ∈ M.map f) → ∃ ms : List α, l = ms.map f ∧ ∀ m ∈ ms, m ∈ M
  | [], _ => ⟨[], rfl, fun m h => by cases h⟩
  | d :: l, h => by
    obtain ⟨ms, rfl, hm⟩ := lift_map f (l := l) fun x hx => h x (List.mem_cons_of_mem _ hx)
    obtain ⟨m, h1, rfl⟩ := List.mem_map.mp (h d List.mem_cons_self)
    refine ⟨m :: ms, rfl, fun x hx => ?_⟩
    rcases List.mem_cons.mp hx with rfl | hx
    · exact h1
    · exact hm x hx
theorem sortable_of {α : Type} (f : α → D) (al : ∀ a b, PySem.W.alike (f a).py (f b).py = true) {ms : List α} (go : ∀ a ∈ ms, (f a).good = true ∧ (f a).dep ≤ 8 ∧ ∃ x r, (f a).py = .tuple (x :: r)) : sortable (ms.map f) where
  al d hd d' hd' := by
    rw [List.map_map] at hd hd'
    obtain ⟨a, _, rfl⟩ := List.mem_map.mp hd
    obtain ⟨b, _, rfl⟩ := List.mem_map.mp hd'
    exact al a b
  so := .inl fun d hd => by
    rw [List.map_map] at hd
    obtain ⟨a, ha, rfl⟩ := List.mem_map.mp hd
    exact (go a ha).2.2
  good := goodA_of fun x hx => by
    obtain ⟨a, ha, rfl⟩ := List.mem_map.mp hx
    exact (go a ha).1
  low d hd := by
    obtain ⟨a, ha, rfl⟩ := List.mem_map.mp hd
    exact (go a ha).2.1
theorem tI_go {ns : List Int} (h : ns ≠ []) : (tI ns).good = true ∧ (tI ns).dep ≤ 8 ∧ ∃ x r, (tI ns).py = .tuple (x :: r) := by
  obtain ⟨a, b, c⟩ := tI_good ns
  refine ⟨a, by omega, ?_⟩
  cases ns with
  | nil => exact absurd rfl h
  | cons n ns => exact ⟨_, _, tI_py _⟩
theorem kok_tI (ns : List Int) : kok (tI ns) = true := by
  show kok (.tup (ns.map D.int)) = true
  simpa only [kok] using (ints_kok ns).1
theorem rng_from {i : Nat} {tb : TSD} {Dd : DEnds} (P : DEnv → Prop) {lo : Int} {n : Nat}
    (step : ∀ (k : Nat) env nx, k < n → P env → (∀ env', P env' → nx env') → tb { Dd with nx := nx, ct := nx, bk := Dd.nx } (env.set i (.val (.int (lo + (k : Int)))))) (end_ : ∀ env, P env → Dd.nx env) :
    ∀ env, P env → forD (gdName i) tb Dd (rngD lo n) env := by
  have key : ∀ (l : List Nat), (∀ k ∈ l, k < n) → ∀ env, P env → forD (gdName i) tb Dd (l.map fun (k : Nat) => D.int (lo + (k : Int))) env := by
    intro l
    induction l with
    | nil => intro _ env p; exact end_ env p
    | cons k l ih => intro h env p; exact step k env _ (h k List.mem_cons_self) p fun env' p' => ih (fun j hj => h j (List.mem_cons_of_mem _ hj)) env' p'
  exact key (List.range n) fun k hk => List.mem_range.mp hk
theorem atI_nat {α : Type} {xs : List α} {k : Nat} (h : k < xs.length) : atI xs (k : Int) = some (xs[k]) := by
  unfold atI ixN
  have h0 : ¬ ((k : Int) < 0) := by omega
  simp [h0, h]
end Dl

namespace Zs
open PySem PySem.Spec PyProof.Rows L2 Dl
def putI (x : Int) : List Int → List Int
  | [] => [x]
  | y :: ys => if x < y then x :: y :: ys else if x = y then y :: ys else y :: putI x ys
def canon : List Int → List Int
  | [] => []
  | x :: xs => putI x (canon xs)
abbrev Up (cs : List Int) : Prop := cs.Pairwise (· < ·)
theorem mem_putI {x k : Int} : ∀ {ys : List Int}, k ∈ putI x ys ↔ k = x ∨ k ∈ ys
  | [] => by simp [putI]
  | y :: ys => by
    unfold putI
    split
    · simp [List.mem_cons]
    · split
      · rename_i h
        subst h
        simp [List.mem_cons]
      · rw [List.mem_cons, mem_putI, List.mem_cons]
        constructor
        · rintro (h | h | h)
          · exact .inr (.inl h)
          · exact .inl h
          · exact .inr (.inr h)
        · rintro (h | h | h)
          · exact .inr (.inl h)
          · exact .inl h
          · exact .inr (.inr h)
theorem mem_canon {k : Int} : ∀ {ns : List Int}, k ∈ canon ns ↔ k ∈ ns
  | [] => Iff.rfl
  | n :: ns => by rw [canon, mem_putI, mem_canon, List.mem_cons]
theorem up_putI {x : Int} : ∀ {ys : List Int}, Up ys → Up (putI x ys)
  | [], _ => List.pairwise_singleton _ _
  | y :: ys, h => by
    obtain ⟨h1, h2⟩ := List.pairwise_cons.mp h
    unfold putI
    split
    · rename_i c
      refine List.pairwise_cons.mpr ⟨fun z hz => ?_, h⟩
      rcases List.mem_cons.mp hz with e | hz
      · rw [e]; exact c
      · exact Int.lt_trans c (h1 z hz)
    · split
      · exact h
      · rename_i c1 c2
        refine List.pairwise_cons.mpr ⟨fun z hz => ?_, up_putI h2⟩
        rcases mem_putI.mp hz with e | hz
        · rw [e]; omega
        · exact h1 z hz
theorem up_canon : ∀ ns : List Int, Up (canon ns)
  | [] => .nil
  | n :: ns => up_putI (up_canon ns)
theorem Up.nodup {cs : List Int} (h : Up cs) : cs.Nodup := h.imp fun h e => by rw [e] at h; exact Int.lt_irrefl _ h
theorem up_eq {a b : List Int} (ha : Up a) (hb : Up b) (h : ∀ k, k ∈ a ↔ k ∈ b) : a = b := sorted_eq (lt := fun a b : Int => a < b) Int.lt_irrefl Int.lt_trans ha hb h
theorem canon_len : ∀ ns : List Int, (canon ns).length ≤ ns.length
  | [] => Nat.le_refl _
  | n :: ns => by
    have h : ∀ ys : List Int, (putI n ys).length ≤ ys.length + 1 := fun ys => by
      induction ys with
      | nil => exact Nat.le_refl _
      | cons y ys ih =>
        unfold putI
        split
        · exact Nat.le_refl _
        · split
          · exact Nat.le_succ _
          · simpa using ih
    exact Nat.le_trans (h _) (Nat.succ_le_succ (canon_len ns))
def SetIO (w : World) (a : Addr) (S : Int → Bool) (n : Nat) : HO := .ext fun h => SetR w h a S n
theorem setIO_ok {w : World} {P : Program} {H : Hp} {h : Heap} {a : Addr} {S : Int → Bool} {n : Nat} (R : SetR w h a S n) : ObjOk P w H h a (SetIO w a S n) :=
  ⟨R, (let ⟨o, _, _, _, ho, _⟩ := R; ⟨o, ho⟩), fun _ _ p k => SetR.at p k⟩
abbrev setOf (w : World) (a : Addr) (cs : List Int) : HO := SetIO w a (fun j => decide (j ∈ cs)) cs.length
theorem set_many {w : World} {h : Heap} {a : Addr} {ns : List Int} {c : Nat} (R : SetR w h a (fun j => decide (j ∈ ns)) c) : SetR w h a (fun j => decide (j ∈ canon ns)) (canon ns).length := by
  have R2 := R
  obtain ⟨o, es, ep, t, ho, hx, hd, g, nd, hm, hb, hf, hn, r⟩ := R2
  have e : (canon ns).length = c := by
    rw [← hn, ← Array.length_toList, ← List.length_map (f := keyOf)]
    refine ((List.perm_ext_iff_of_nodup (up_canon ns).nodup nd).mpr fun k => ?_).length_eq
    rw [mem_canon, ← hm k, decide_eq_true_iff]
  rw [e]
  exact R.congr fun k => by simp only [mem_canon]
abbrev TZI := DEnv → (List Int → Prop) → Prop
def SZI (X : Cx) (g : Gx) (te : TE) (tz : TZI) : Prop :=
  ∀ (b : B0) (σ : L2.St) (H : Hp) (env : DEnv) (Qd : List Int → Prop) (Q : VK), DenE X.K g.I b σ H env → XL X.K g b → tz env Qd → (∀ a cs H', Ext g.I H H' → H' a = some (setOf X.w a cs) → Up cs → Qd cs → Q (.ref a) H') → te σ H Q
def PZI (X : Cx) (g : Gx) (e : Expr) (tz : TZI) : Prop := SZI X g (wE X e) tz
theorem pzi_of {X : Cx} {g : Gx} {e : Expr} {te : TE} {tz : TZI} (p : PE X e te) (h : SZI X g te tz) : PZI X g e tz := fun b σ H env Qd Q hd xl ht k pins s J => p.run pins s σ H Q J (h b σ H env Qd Q hd xl ht k)
def rSetI (K : PySem.W.Frag) (w : World) : List V → Hp → VK → Prop := fun xs H Q => ∃ (l : Addr) (ns : List Int), xs = [.ref l] ∧ (SqL K H l (ns.map V.int) ∨ SqT K H l (ns.map V.int)) ∧ ns.length ≤ 4000 ∧ ∀ a, H a = none → Q (.ref a) (upd H a (setOf w a (canon ns)))
theorem cr_setI {X : Cx} (hc : X.calm = true) : CallR X (.type "set") (rSetI X.K X.w) := fun pins s σ H xs us Q J r h => by
  obtain ⟨l, ns, rfl, hl, few, q⟩ := h
  rw [Vals.ref1 r]
  have hn : H s.heap.objs.size = none := J.hok.fresh (Nat.le_refl _)
  have room : ns.length + 1 < scanBound := by unfold scanBound; omega
  have fin : ∀ (h' : Heap) (tk c : Nat), SetR X.w h' s.heap.objs.size (fun j => decide (j ∈ ns)) c → c ≤ ns.length → (∀ b o, s.heap.get? b = some o → h'.get? b = some o) → EP X pins σ Q (.ref s.heap.objs.size) { s with heap := h', toks := tk } := fun h' tk c R _ k =>
    ⟨.ref _, upd H s.heap.objs.size (setOf X.w s.heap.objs.size (canon ns)), J.laid (t' := tk) k (Nat.le_refl _) (setIO_ok (set_many R)), rfl, q _ hn⟩
  rcases hl with hl | hl
  · obtain ⟨its, rv, pl, _⟩ := J.list hl
    exact call_list (J.ok.hd hc) pl.isList (by simpa using rv.ints) room fin
  · obtain ⟨its, rv, ⟨o, ho, ho2, n, hd⟩, _⟩ := J.tuple hl
    exact call_set_tupI ns (J.ok.hd hc) ⟨o, ho, ho2, n, hd⟩ (by simpa using rv.ints) room fin
def zSetI (ta : TAD) : TZI := fun env Q => ta env fun xs => ∃ ns : List Int, (xs = [.lst (ns.map D.int)] ∨ xs = [.tup (ns.map D.int)]) ∧ ns.length ≤ 4000 ∧ Q (canon ns)
section
variable {X : Cx} {g : Gx} {e : Expr} {tas : TAD} {tz : TZI} {p pos : Pos}
theorem z_setI (hc : X.calm = true) (hg : Gl X "set") (hm : X.mg "set" = none) (ha : PAD X g [e] tas)
    (he : starEach [e] X.env = (false, eval e X.env) :: starEach [] X.env := by rfl) (hpl : (backTo pos (starEach [] X.env)).any (·.1) = false := by rfl) : PZI X g (.Call (.Name "set" p) [e] [] pos) (zSetI tas) :=
  pzi_of (pe_callTy (cr_setI hc) hg hm boot_set pa_w (by decide) (by decide) he hpl) fun b σ H env Qd Q hd xl ht k => ha b σ H env _ _ hd xl ht fun vs ds H1 e1 dn ⟨ns, e, few, q⟩ => by
    have fin : ∀ a, H1 a = none → Q (.ref a) (upd H1 a (setOf X.w a (canon ns))) := fun a hn => k a _ _ (e1.trans (.new e1.2 hn)) upd_same (up_canon ns) q
    rcases e with rfl | rfl
    · obtain ⟨v, rfl, d1⟩ := dn.one1
      simp only [Den] at d1
      obtain ⟨a, us, rfl, hl, na, r⟩ := d1
      have e2 := r.ofInts
      subst e2
      exact ⟨a, ns, rfl, .inl (SqL.of hl), few, fin⟩
    · obtain ⟨v, rfl, d1⟩ := dn.one1
      simp only [Den] at d1
      obtain ⟨a, us, rfl, sq, _, r⟩ := d1
      have e2 := r.ofInts
      subst e2
      exact ⟨a, ns, rfl, .inr sq, few, fin⟩
def rLenZ (w : World) : List V → Hp → VK → Prop := fun xs H Q => ∃ (a : Addr) (cs : List Int), xs = [.ref a] ∧ H a = some (setOf w a cs) ∧ Q (.int (cs.length : Nat)) H
theorem cr_lenZ : CallR X (.builtin "len") (rLenZ X.w) := fun pins s σ H xs us Q J r h => by
  obtain ⟨a, cs, rfl, hS, q⟩ := h
  rw [Vals.ref1 r]
  obtain ⟨o, es, ep, t, ho, hx, hd, _, _, _, hb, hf, hn, _⟩ := (J.hok a _ hS).1
  exact call_len_set ho hx hd hf (by unfold scanBound at hb; omega) ⟨.int cs.length, H, J.tok _, ⟨_, by rw [hn]⟩, q⟩
def dLenZ (tz : TZI) : TED := fun env Q => tz env fun cs => Q (.int (cs.length : Nat))
theorem d_lenZ (hg : Gl X "len") (hm : X.mg "len" = none) (ha : PZI X g e tz)
    (he : starEach [e] X.env = (false, eval e X.env) :: starEach [] X.env := by rfl) (hpl : (backTo pos (starEach [] X.env)).any (·.1) = false := by rfl) : PED X g (.Call (.Name "len" p) [e] [] pos) (dLenZ tz) :=
  ped_of (pe_callB cr_lenZ hg hm boot_len (pa_cons pe_w pa_nil he) (by decide) (by decide) he hpl) fun b σ H env Qd Q hd xl ht k =>
    ha b σ H env _ (fun v H' => rLenZ X.w [v] H' Q) hd xl ht fun a cs H1 e1 hS up q => ⟨a, cs, rfl, hS, k _ _ _ e1 (by simp only [Den]) q⟩
def rSortI (w : World) : List V → Hp → VK → Prop := fun xs H Q => ∃ (a : Addr) (cs : List Int), xs = [.ref a] ∧ H a = some (setOf w a cs) ∧ Up cs ∧ cs.length < 64 ∧ ∀ p, H p = none → Q (.ref p) (upd H p (.lst (cs.map V.int)))
theorem cr_sortI (hc : X.calm = true) : CallR X (.builtin "sorted") (rSortI X.w) := fun pins s σ H xs us Q J r h => by
  obtain ⟨a, cs, rfl, hS, up, few, q⟩ := h
  rw [Vals.ref1 r]
  have R : SetR X.w s.heap a (fun j => decide (j ∈ cs)) cs.length := (J.hok a _ hS).1
  refine sorted_set R (J.ok.hd hc) few fun s' p out c ns keep gs os hp hg iv asc mem len => ?_
  have e : ns = cs := up_eq asc up fun k => by rw [mem k, decide_eq_true_iff]
  subst e
  have hn : H p = none := J.hok.fresh hp
  have hv : Vals (ns.map V.int) out.toList := vals_of_ints iv
  have J2 : Inv X pins σ (upd H p (.lst (ns.map V.int))) { s with heap := s'.heap, gens := s'.gens, drawn := s'.drawn, toks := s'.toks } :=
    J.call (ch := []) (Un.laid keep hp hn) (J.hok.laid keep hp ⟨by rw [List.length_map, sizeLine_eq]; omega, out.toList, c, hv, hg⟩) (by rw [gs]; exact J.bare) (fun _ z => nomatch z)
  have es : s' = { s with heap := s'.heap, gens := s'.gens, drawn := s'.drawn, toks := s'.toks } := by
    cases s'
    cases s
    cases os
    rfl
  rw [es]
  exact ⟨.ref p, _, J2, rfl, q p hn⟩
def dSortI (tz : TZI) : TED := fun env Q => tz env fun cs => cs.length < 64 ∧ Q (.lst (cs.map D.int))
theorem ints_den {K : PySem.W.Frag} {Av : Addr → Prop} {H : Hp} : ∀ ns : List Int, DenA K Av H (ns.map V.int) (ns.map D.int)
  | [] => by simp [DenA]
  | n :: ns => by
    show DenA K Av H (V.int n :: ns.map V.int) (D.int n :: ns.map D.int)
    simp only [DenA]
    exact ⟨_, _, rfl, by simp only [Den], ints_den ns⟩
theorem d_sortI (hc : X.calm = true) (hg : Gl X "sorted") (hm : X.mg "sorted" = none) (ha : PZI X g e tz)
    (he : starEach [e] X.env = (false, eval e X.env) :: starEach [] X.env := by rfl) (hpl : (backTo pos (starEach [] X.env)).any (·.1) = false := by rfl) : PED X g (.Call (.Name "sorted" p) [e] [] pos) (dSortI tz) :=
  ped_of (pe_callB (cr_sortI hc) hg hm boot_sorted (pa_cons pe_w pa_nil he) (by decide) (by decide) he hpl) fun b σ H env Qd Q hd xl ht k =>
    ha b σ H env _ (fun v H' => rSortI X.w [v] H' Q) hd xl ht fun a cs H1 e1 hS up ⟨few, q⟩ => ⟨a, cs, rfl, hS, up, few, fun p hn => k _ _ _ (e1.trans (.new e1.2 hn)) (new_lst e1.2 hn (ints_den cs)) q⟩
end
end Zs

namespace Zs
open PySem PySem.Spec PyProof.Rows L2 Dl
def Top (mx : Bool) (ns : List Int) (m : Int) : Prop := m ∈ ns ∧ ∀ y ∈ ns, if mx = true then y ≤ m else m ≤ y
theorem pys (ns : List Int) : pyA (ns.map D.int) = ns.map PyData.int := by
  induction ns with
  | nil => rfl
  | cons n ns ih => show D.py (.int n) :: pyA (ns.map D.int) = _; rw [ih]; rfl
theorem good_ints : ∀ ns : List Int, goodA (ns.map D.int) = true
  | [] => rfl
  | n :: ns => by show (D.good (.int n) && goodA (ns.map D.int)) = true; rw [good_ints ns]; rfl
theorem like_ints (ns : List Int) : PySem.W.AlikeAll (ns.map PyData.int) := by
  refine ⟨fun x hx y hy => ?_, fun x hx => ?_⟩
  · obtain ⟨a, _, rfl⟩ := List.mem_map.mp hx
    obtain ⟨b, _, rfl⟩ := List.mem_map.mp hy
    rfl
  · obtain ⟨a, _, rfl⟩ := List.mem_map.mp hx
    exact fun z => nomatch z
theorem dep_ints : ∀ ns : List Int, PyData.depthAll (ns.map PyData.int) = 0
  | [] => rfl
  | n :: ns => by show max 0 (PyData.depthAll (ns.map PyData.int)) = 0; rw [dep_ints ns]; rfl
theorem lt_int (a b : Int) : PySem.W.dataLt (.int a) (.int b) = decide (a < b) := by
  exact PySem.W.dataLt_int a b
theorem fold_max : ∀ (ys : List Int) (x : Int), ∃ m : Int, PySem.W.maxD (.int x) (ys.map PyData.int) = .int m ∧ Top true (x :: ys) m
  | [], x => ⟨x, rfl, List.mem_singleton.mpr rfl, fun y hy => by rw [List.mem_singleton.mp hy]; exact Int.le_refl _⟩
  | y :: ys, x => by
    have e : PySem.W.maxD (.int x) ((y :: ys).map PyData.int) = PySem.W.maxD (.int (if x < y then y else x)) (ys.map PyData.int) := by
      unfold PySem.W.maxD
      rw [List.map_cons, List.foldl_cons]
      congr 1
      rw [lt_int]
      by_cases h : x < y <;> simp [h]
    obtain ⟨m, h1, h2, h3⟩ := fold_max ys (if x < y then y else x)
    refine ⟨m, e.trans h1, ?_, fun z hz => ?_⟩
    · rcases List.mem_cons.mp h2 with q | q
      · rw [q]; split
        · exact List.mem_cons_of_mem _ List.mem_cons_self
        · exact List.mem_cons_self
      · exact List.mem_cons_of_mem _ (List.mem_cons_of_mem _ q)
    · have t := h3 _ List.mem_cons_self
      rw [if_pos rfl] at t ⊢
      rcases List.mem_cons.mp hz with q | q
      · rw [q]; split at t <;> omega
      · rcases List.mem_cons.mp q with q | q
        · rw [q]; split at t <;> omega
        · have := h3 z (List.mem_cons_of_mem _ q)
          rwa [if_pos rfl] at this
theorem fold_min : ∀ (ys : List Int) (x : Int), ∃ m : Int, PySem.W.minD (.int x) (ys.map PyData.int) = .int m ∧ Top false (x :: ys) m
  | [], x => ⟨x, rfl, List.mem_singleton.mpr rfl, fun y hy => by rw [List.mem_singleton.mp hy]; exact Int.le_refl _⟩
  | y :: ys, x => by
    have e : PySem.W.minD (.int x) ((y :: ys).map PyData.int) = PySem.W.minD (.int (if y < x then y else x)) (ys.map PyData.int) := by
      unfold PySem.W.minD
      rw [List.map_cons, List.foldl_cons]
      congr 1
      rw [lt_int]
      by_cases h : y < x <;> simp [h]
    obtain ⟨m, h1, h2, h3⟩ := fold_min ys (if y < x then y else x)
    refine ⟨m, e.trans h1, ?_, fun z hz => ?_⟩
    · rcases List.mem_cons.mp h2 with q | q
      · rw [q]; split
        · exact List.mem_cons_of_mem _ List.mem_cons_self
        · exact List.mem_cons_self
      · exact List.mem_cons_of_mem _ (List.mem_cons_of_mem _ q)
    · have t := h3 _ List.mem_cons_self
      rw [if_neg Bool.false_ne_true] at t ⊢
      rcases List.mem_cons.mp hz with q | q
      · rw [q]; split at t <;> omega
      · rcases List.mem_cons.mp q with q | q
        · rw [q]; split at t <;> omega
        · have := h3 z (List.mem_cons_of_mem _ q)
          rwa [if_neg Bool.false_ne_true] at this
def bnm (mx : Bool) : String := if mx = true then "max" else "min"
def rBest (K : PySem.W.Frag) (mx : Bool) : List V → List V → Hp → VK → Prop := fun xs zs H Q => ∃ (l : Addr) (ns : List Int) (d : V), xs = [.ref l] ∧ zs = [d] ∧ (SqL K H l (ns.map V.int) ∨ SqT K H l (ns.map V.int)) ∧
  (ns = [] → Q d H) ∧ ∀ m, Top mx ns m → Q (.int m) H
theorem cr_best {X : Cx} (mx : Bool) (hc : X.calm = true) (hu : X.A.units + 64 < cLine) : CallRK X (.builtin (bnm mx)) [Str.ofString "default"] (rBest X.K mx) := fun pins s σ H xs zs us ws Q J rx rz h => by
  obtain ⟨l, ns, d, rfl, rfl, hl, q0, q1⟩ := h
  rw [Vals.ref1 rx]
  obtain ⟨u, rfl, ru⟩ : ∃ u, ws = [u] ∧ RelV d u := by
    cases rz with
    | cons r1 r2 => cases r2; exact ⟨_, rfl, r1⟩
  show wpAny _ _ (call (.builtin (bnm mx)) [.ref l] [(Str.ofString "default", u)]) _ _ _
  have dn : ∀ h' tk, (∀ b o, s.heap.get? b = some o → h'.get? b = some o) → ns = [] → EP X pins σ Q u { s with heap := h', toks := tk } := fun h' tk k e => ⟨d, H, J.kept k, ru, q0 e⟩
  have got : ∀ (x : PyData) (m : Int) (v : Value) (h' : Heap) (tk : Nat) (bs : List Addr), x = .int m → Reads h' v x bs → Top mx ns m → (∀ b o, s.heap.get? b = some o → h'.get? b = some o) → EP X pins σ Q v { s with heap := h', toks := tk } := fun x m v h' tk bs e r t k => by
    subst e
    cases r
    exact ⟨.int m, H, J.kept k, ⟨_, rfl⟩, q1 m t⟩
  have rs : ∀ {vs : List V} {its : List Value}, vs = ns.map V.int → Vals vs its → ∃ as, ReadsAll s.heap its (ns.map PyData.int) as := fun {vs its} e r => by
    subst e
    rw [← pys]
    exact Dp.readsAll J _ _ _ (DenA.dp (K := X.K) (Av := fun _ => False) (H := H) _ _ (good_ints ns) (ints_den ns)) r
  have ru2 : X.A.units + 1 + PyData.depthAll (ns.map PyData.int) < cLine := by rw [dep_ints]; omega
  have best : ∀ (y : PyData) (ys : List PyData), ns.map PyData.int = y :: ys → ∃ m : Int, (if mx = true then PySem.W.maxD y ys else PySem.W.minD y ys) = .int m ∧ Top mx ns m := fun y ys e => by
    cases ns with
    | nil => cases e
    | cons n ns =>
      obtain ⟨rfl, rfl⟩ := List.cons.inj e
      cases mx with
      | true => rw [if_pos rfl]; exact fold_max ns n
      | false => rw [if_neg Bool.false_ne_true]; exact fold_min ns n
  have nil_of : ns.map PyData.int = [] → ns = [] := List.map_eq_nil_iff.mp
  rcases hl with hl | hl
  · obtain ⟨its, rv, pl, _⟩ := J.list hl
    obtain ⟨as, ra⟩ := rs rfl rv
    cases mx with
    | true => exact PySem.W.max_list_default (J.ok.hd hc) pl.isList (by simpa using ra) (like_ints ns) ru2 (fun e h' tk k => dn h' tk k (nil_of e)) fun y ys i v h' tk bs e hi r k => let ⟨m, e1, t⟩ := best y ys e; got _ m v h' tk bs e1 r t k
    | false => exact PySem.W.min_list_default (J.ok.hd hc) pl.isList (by simpa using ra) (like_ints ns) ru2 (fun e h' tk k => dn h' tk k (nil_of e)) fun y ys i v h' tk bs e hi r k => let ⟨m, e1, t⟩ := best y ys e; got _ m v h' tk bs e1 r t k
  · obtain ⟨its, rv, ⟨o, ho, ho2, n, hd⟩, _⟩ := J.tuple hl
    obtain ⟨as, ra⟩ := rs rfl rv
    have it : s.heap.IsTuple l its.toArray := ⟨o, ho, ho2, n, hd⟩
    cases mx with
    | true => exact PySem.W.max_tuple_default (J.ok.hd hc) it (by simpa using ra) (like_ints ns) ru2 (fun e h' tk k => dn h' tk k (nil_of e)) fun y ys i v h' tk bs e hi r k => let ⟨m, e1, t⟩ := best y ys e; got _ m v h' tk bs e1 r t k
    | false => exact PySem.W.min_tuple_default (J.ok.hd hc) it (by simpa using ra) (like_ints ns) ru2 (fun e h' tk k => dn h' tk k (nil_of e)) fun y ys i v h' tk bs e hi r k => let ⟨m, e1, t⟩ := best y ys e; got _ m v h' tk bs e1 r t k
def dBest (mx : Bool) (ta tk : TAD) : TED := fun env Q => ta env fun xs => tk env fun zs => ∃ (ns : List Int) (d : D), (xs = [.lst (ns.map D.int)] ∨ xs = [.tup (ns.map D.int)]) ∧ zs = [d] ∧ (ns = [] → Q d) ∧ ∀ m, Top mx ns m → Q (.int m)
section
variable {X : Cx} {g : Gx} {e : Expr} {kws : List Keyword} {ta tk : TAD} {p pos : Pos} {x : Str}
theorem d_best (mx : Bool) (hu : X.A.units + 64 < cLine) (hc : X.calm = true) (hg : Gl X x) (hm : X.mg x = none) (ha : PAD X g [e] ta) (hkw : PKD X g kws tk) (hx : bootBuiltins x = some (.builtin (bnm mx)))
    (hn : x ≠ "__name__" := by decide) (hdb : (x == ("__debug__" : Str)) = false := by decide)
    (he : backTo pos (starEach [e] X.env) = (false, eval e X.env) :: backTo pos (starEach [] X.env) := by rfl) (hpl : (backTo pos (starEach [e] X.env)).any (·.1) = false := by rfl)
    (hall : (backToKw pos (keywordEach kws X.env)).all (·.1.isSome) = true := by rfl) (hnone : (backToKw pos (keywordEach kws X.env)).any (·.1.isNone) = false := by rfl) (hks : (backToKw pos (keywordEach kws X.env)).filterMap (·.1) = [Str.ofString "default"] := by rfl) :
    PED X g (.Call (.Name x p) [e] kws pos) (dBest mx ta tk) :=
  ped_of (pe_callBK (cr_best mx hc hu) hg hm hx pa_w pk_w hn hdb he hpl hall hnone hks) fun b0 σ H env Qd Q hd xl h k => ha b0 σ H env _ _ hd xl h fun vs xs H1 e1 dn h1 => hkw b0 σ H1 env _ _ (hd.mono e1) xl h1 fun zs ys H2 e2 dn2 ⟨ns, d, e, ez, q0, q1⟩ => by
    subst ez
    obtain ⟨dv, rfl, dd⟩ := dn2.one1
    have dn' := DenA.keep e2.1 _ _ dn
    have f0 : ns = [] → Q dv H2 := fun e => k _ _ _ (e1.trans e2) dd (q0 e)
    have f1 : ∀ m, Top mx ns m → Q (.int m) H2 := fun m t => k _ _ _ (e1.trans e2) (by simp only [Den]) (q1 m t)
    rcases e with rfl | rfl
    · obtain ⟨v, rfl, d1⟩ := dn'.one1
      simp only [Den] at d1
      obtain ⟨a, us, rfl, hl, na, r⟩ := d1
      have e2 := r.ofInts
      subst e2
      exact ⟨a, ns, dv, rfl, rfl, .inl (SqL.of hl), f0, f1⟩
    · obtain ⟨v, rfl, d1⟩ := dn'.one1
      simp only [Den] at d1
      obtain ⟨a, us, rfl, sq, _, r⟩ := d1
      have e2 := r.ofInts
      subst e2
      exact ⟨a, ns, dv, rfl, rfl, .inr sq, f0, f1⟩
end
end Zs

namespace Zs
open PySem PySem.Spec PyProof.Rows L2 Dl Ns
abbrev KeyD := L2.Key
theorem zip_keys : ∀ (kvs : List (KeyD × V)), kvs = (kvs.map (·.1)).zip (kvs.map (·.2))
  | [] => rfl
  | p :: r => by rw [List.map_cons, List.map_cons, List.zip_cons_cons, ← zip_keys r]
section
variable {X : Cx} {g : Gx} {wi : TI} {gt : TG} {tt : TT} {tk te : TE} {vs : List Nat} {tid : TID} {gd : TGD} {td : TTD} {kd ed : TED}
end
section
variable {X : Cx} {g : Gx} {kx vx tg iter : Expr} {ifs : List Expr} {scope : Scope} {own : List (Str × Nat)} {pos : Pos} {gt : TG} {tid : TID} {gd : TGD} {td : TTD} {kd ed : TED}
end
section
variable {X : Cx} {g : Gx} {a b : Expr} {ta tb : TED} {pos : Pos}
end
end Zs

namespace Zs
open PySem PySem.Spec PyProof.Rows L2 Dl He
structure ErR (K : PySem.W.Frag) (mg : Str → Option Value) (x : Str) : Prop where
  e : Er0 K mg x
  s : PySem.W.subIn K (.ref (ga K x)) (.type "BaseException") = some true
  t : PySem.W.typeIn K (.ref (ga K x)) = some (.type "type")
def erRB (K : PySem.W.Frag) (x : Str) : Bool := er0B K x && (PySem.W.subIn K (.ref (ga K x)) (.type "BaseException") == some true) && (PySem.W.typeIn K (.ref (ga K x)) == some (.type "type"))
theorem erR_of {K : PySem.W.Frag} {mg : Str → Option Value} {x : Str} (h : erRB K x = true) (m : mg x = some (.ref (ga K x))) : ErR K mg x := by
  unfold erRB er0B at h
  simp only [Bool.and_eq_true, beq_iff_eq] at h
  exact ⟨⟨h.1.1.1, h.1.1.2, m⟩, h.1.2, h.2⟩
section
variable {X : Cx} {g : Gx} {pos p cpos : Pos} {x : Str}
theorem pmk_exc0 {C : Addr} {bmB : List Value} {B newId initId : String} (F : ExcBaseFacts B newId initId bmB) (q : PySem.W.excIn X.K C bmB newId = true) (gC : X.mg x = some (.ref C)) (kC : PySem.W.keepIn X.K (.ref C) = true) (r : Raises X (.ref C)) (hg : Gl X x)
    (hdb : (x == ("__debug__" : Str)) = false := by decide) : PMk X (.Call (.Name x p) [] [] pos) (fun _ H Q => Q (.ref C) none H) := by
  intro pins s σ H Q I h
  refine wpAny_Call_Name_kw (ld_glob I hg gC ?_ hdb)
  refine PySem.W.callWith_K0 I.kIn kC ?_
  show wpAny _ _ (call (.ref C) []) _ _ _
  obtain ⟨_, _, _, _, _, _, _, _, _, _, _, _, _, _, _, _, _, oC, nN, noI, T⟩ := exc_obj I.kIn q
  exact wpAny_call_exc_subT F T oC nN noI (fun h' b made => mk_of I made r h (I.hok.gone made.new)) (by rw [sizeLine_eq]; exact Nat.zero_le _)
def sRaise0 (C : Addr) (Ed : DEnv → Exc → Prop) : TSD := fun _ env => Ed env ⟨C, none⟩
theorem ds_raise0 (er : ErR X.K X.mg x) (hc : X.calm = true) (tk : Takes X g.W) (hg : Gl X x) (hdb : (x == ("__debug__" : Str)) = false := by decide) : PSD X g (.Raise (some (.Call (.Name x p) [] [] cpos)) none pos) (sRaise0 (ga X.K x) g.Ed) :=
  psd_of (ps_raise hc tk (pmk_exc0 F.excBase_ValueError er.e.q er.e.m er.e.k (raises_own er.s er.t) hg hdb)) fun b σ H env Dd E hd xl h el =>
    xl σ H env ⟨ga X.K x, none⟩ none H hd (.refl hd.ok) rfl h
end
section
variable {X : Cx} {g : Gx} {pos p : Pos} {x : Str} {e : Expr} {td : TED}
end
def dIndex (ta tb : TED) : TED := fun env Q => ta env fun x => ∃ ds : List D, x = .lst ds ∧ tb env fun d => ∃ (j : Nat) (z : D), okD d ∧ okD (.lst ds) ∧ ds[j]? = some z ∧ eqD z d = true ∧ (∀ (m : Nat) (z' : D), m < j → ds[m]? = some z' → eqD z' d = false) ∧ Q (.int (j : Nat))
theorem pyA_at : ∀ (ds : List D) (j : Nat), (pyA ds)[j]? = (ds[j]?).map D.py
  | [], _ => rfl
  | d :: ds, 0 => rfl
  | d :: ds, j + 1 => pyA_at ds j
section
variable {X : Cx} {g : Gx} {o e : Expr} {ta tb : TED} {apos cpos : Pos}
theorem d_index (hu : X.A.units + 65 < cLine) (ho : PED X g o ta) (he : PED X g e tb)
    (hbase : attributeBase o "index" X.env (eval o X.env) = eval o X.env := by rfl)
    (hfew : ((backTo cpos (starEach (e :: []) X.env)).all (fun x => !x.1) && (backToKw cpos (keywordEach [] X.env)).all (fun x => x.1.isSome)
      && decide ((e :: []).length + ([] : List Keyword).length + (if ([] : List Keyword).isEmpty then 0 else 1) < 30)) = true := by rfl)
    (hline : (apos.endLine == cpos.line) = true := by rfl) (hs : starEach (e :: []) X.env = (false, eval e X.env) :: starEach [] X.env := by rfl) (hplain : (backTo cpos (starEach [] X.env)).any (·.1) = false := by rfl) :
    PED X g (.Call (.Attribute o "index" apos) [e] [] cpos) (dIndex ta tb) :=
  ped_of (pe_bm PySem.F.plainAttrs_list PySem.F.slot_list_index (by first | exact PySem.F.type_list_index | rfl | decide +kernel) (mt_indexD hu) pe_w (pa_cons pe_w pa_nil hs) hbase hfew hline hs hplain) fun b σ H env Qd Q hd xl h k =>
    ho b σ H env _ _ hd xl h fun v d H1 e1 dn ⟨ds, ed, h1⟩ => ⟨(by
      subst ed
      simp only [Den] at dn
      obtain ⟨a, vs, rfl, hl, _, _⟩ := dn
      exact .inl ⟨rfl, vs, SqL.of hl⟩), he b σ H1 env _ _ (hd.mono e1) xl h1 fun v2 d2 H2 e2 dn2 ⟨j, z, k1, k2, hz, hq, no, q⟩ => by
      subst ed
      have dn' := Den.keep e2.1 _ _ dn
      have l := Den.dp _ _ k2.1 dn'
      simp only [Den] at dn'
      obtain ⟨a, vs, rfl, hl, _, _⟩ := dn'
      have s2 := k2.shaped
      simp only [D.py] at l s2
      exact ⟨a, v2, d2.py, pyA ds, j, z.py, rfl, rfl, l, Den.dp _ _ k1.1 dn2, s2, k1.shaped, by rw [pyA_at, hz]; rfl, hq, fun m z' hm hz' => by
        rw [pyA_at] at hz'
        cases e : ds[m]? with
        | none => rw [e] at hz'; cases hz'
        | some w =>
          rw [e] at hz'
          cases hz'
          exact no m w hm e, k _ _ _ (e1.trans e2) (by simp only [Den]) q⟩⟩
end
section
variable {X : Cx} {g : Gx} {pos p1 p2 : Pos} {x y : Str} {e : Expr} {td : TED} {i j : Nat}
end
end Zs

namespace Zs
open PySem PySem.Spec PyProof.Rows L2 Dl He
section
variable {X : Cx} {I : HI} {g : Gx} {e a b : Expr} {td ta tb : TED} {p pos p2 q : Pos} {x : Str}
end
end Zs

namespace Zs
open PySem PySem.Spec PyProof.Rows L2 Dl He
section
variable {X : Cx} {I : HI}
theorem mul_one_t (l : Addr) (items : Array Value) (n : Nat) (dd : Option Addr) (sl : Array (Option Value)) (u : Tok) :
    Meets (Builtin.«tuple.__mul__» ⟨[.ref l, .int 1 u], []⟩) (fun _ R s => s.heap.get? l = some { cls := .type "tuple", dict := dd, data := .seq items n, slots := sl } ∧ R (.ok (.ret (Value.ref l))) s) :=
  .of_wp fun prog w A R s h => by
    obtain ⟨hp, g, d, tk, os⟩ := s
    obtain ⟨hl, h⟩ := h
    have f1 := AutoSeq1.idx_int
    have c1 : (items.isEmpty || (1 : Int) == 1) = true := by simp
    wp_walk using wpAny_loadPart' hl
    exact ⟨_, rfl, h⟩
theorem mul_none_t (l : Addr) (items : Array Value) (n : Nat) (dd : Option Addr) (sl : Array (Option Value)) (u : Tok) (ne : items.isEmpty = false) :
    Meets (Builtin.«tuple.__mul__» ⟨[.ref l, .int 0 u], []⟩) (fun _ R s => s.heap.get? l = some { cls := .type "tuple", dict := dd, data := .seq items n, slots := sl } ∧
      R (.ok (.ret (Value.ref s.heap.objs.size))) { s with heap := s.heap.push { cls := Value.type "tuple", data := Data.seq #[] }, toks := s.toks }) :=
  .of_wp fun prog w A R s h => by
    obtain ⟨hp, g, d, tk, os⟩ := s
    obtain ⟨hl, h⟩ := h
    have f1 := AutoSeq1.idx_int
    have c1 : (items.isEmpty || (0 : Int) == 1) = false := by rw [ne]; rfl
    wp_walk using wpAny_loadPart' hl
    repeat (first
      | (refine wpAny_ite_false (decide_eq_false (by rw [c1]; exact Bool.false_ne_true)) ?_; wp_walk using wpAny_loadPart' hl))
    exact ⟨_, rfl, h⟩
def rRepN (K : PySem.W.Frag) : R2 := fun x y H Q => ∃ l k xs, x = .ref l ∧ y = .int k ∧ SqT K H l xs ∧ xs ≠ [] ∧ 0 ≤ k ∧ k ≤ 1000 ∧ xs.length ≤ 1000 ∧ (k = 1 → Q (.ref l) H) ∧ (k ≠ 1 → ∀ p, H p = none → Q (.ref p) (upd H p (.tup (List.replicate k.toNat xs).flatten)))
theorem op_repN : OpR X (binaryOp .Mult) (rRepN X.K) := by
  intro pins s σ H x y v u Q J rx ry h
  obtain ⟨l, k, xs, rfl, rfl, hT, ne, k0, k1, few, q1, q2⟩ := h
  by_cases big : 2 ≤ k
  · exact op_repT pins s σ H _ _ v u Q J rx ry ⟨l, k, xs, rfl, rfl, hT, ne, big, k1, few, q2 (by omega)⟩
  · cases rx
    obtain ⟨t, rfl⟩ := ry
    obtain ⟨its, r, ⟨⟨cls, dd, data, sl⟩, ho, hc, n, hd⟩, hs⟩ := J.tuple hT
    simp only at hc hd
    subst hc hd
    have nei : its.toArray.isEmpty = false := by
      cases its with
      | nil => cases r; exact absurd rfl ne
      | cons a b => rfl
    refine wpAny_binaryOp_repeat_ref (T := "tuple") (U := "int") (by decide) ⟨_, ho, rfl⟩ (fun s' => typeIs_int s' k t) noFill_tuple_mul F.fills_int_mul F.slot_int_rmul repeat_tuple F.slot_int_index.lookup
      (call_meets F.slot_int_rmul (typeIs_int s k t) F.entry_int_rmul (F.args_int_rmul_2 _ _) (int_rmul_tuple k t l its.toArray n dd sl) ⟨ho, rfl, ⟨_, ho, rfl⟩, ?_⟩)
    rcases (show k = 0 ∨ k = 1 by omega) with e | e
    · subst e
      refine call_meets F.slot_tuple_mul ⟨_, ho, rfl⟩ F.entry_tuple_mul (F.args_tuple_mul_2 _ _) (mul_none_t l its.toArray n dd sl t nei) ⟨ho, ?_⟩
      refine ⟨.ref s.heap.objs.size, _, J.laid (t' := s.toks) (o := .tup []) (fun b ob q => Heap.get?_push_of_some _ q) (Nat.le_refl _) ⟨by show 0 ≤ sizeLine; decide, [], .nil, IsTup.new _ _⟩, rfl, q2 (by decide) _ (J.hok.fresh (Nat.le_refl _))⟩
    · subst e
      exact call_meets F.slot_tuple_mul ⟨_, ho, rfl⟩ F.entry_tuple_mul (F.args_tuple_mul_2 _ _) (mul_one_t l its.toArray n dd sl t) ⟨ho, ⟨.ref l, H, J, rfl, q1 rfl⟩⟩
def fRepT : F2 := fun x y Q => ∃ (xs : List D) (k : Int), x = .tup xs ∧ y = .int k ∧ xs ≠ [] ∧ 0 ≤ k ∧ k ≤ 1000 ∧ xs.length ≤ 1000 ∧ Q (.tup (List.replicate k.toNat xs).flatten)
theorem dena_rep {K : PySem.W.Frag} {Av : Addr → Prop} {H : Hp} {vs : List V} {ds : List D} (h : DenA K Av H vs ds) : ∀ n, DenA K Av H (List.replicate n vs).flatten (List.replicate n ds).flatten
  | 0 => by simp [DenA]
  | n + 1 => by
    rw [List.replicate_succ, List.replicate_succ, List.flatten_cons, List.flatten_cons]
    exact DenA.app h (dena_rep h n)
theorem r_repT : RD X I (binaryOp .Mult) fRepT := fun H x y dx dy Qd Q ok hx hy ⟨xs, k, e1, e2, ne, k0, k1, few, h⟩ kk => by
  subst e1 e2
  have hx' := hx
  simp only [Den] at hx hy
  obtain ⟨a, vs, rfl, s1, n1, r1⟩ := hx
  refine rw2_of op_repN ⟨a, k, vs, rfl, hy, s1, fun e => ne ?_, k0, k1, by rw [r1.len]; exact few, fun e => ?_, fun e p hp => ?_⟩
  · rw [← List.length_eq_zero_iff, ← r1.len, e]; rfl
  · subst e
    exact kk _ _ H (.refl ok) hx' (by simpa using h)
  · exact kk _ _ _ (.new ok hp) (new_tup ok hp (dena_rep r1 _)) h
end
end Zs

namespace Zz
open PySem PySem.Spec PyProof.Rows L2
def Sq : Bool → Heap → Addr → Array Value → Prop
  | true, h, l, xs => h.IsTuple l xs
  | false, h, l, xs => h.IsList l xs
def Wk : Bool → Heap → Addr → Addr → Nat → Prop
  | true, h, it, l, k => h.IsTupleIter it l k
  | false, h, it, l, k => h.IsListIter it l k
abbrev wkName (b : Bool) : String := if b = true then "tuple_iterator" else "list_iterator"
abbrev wkObj (b : Bool) (l : Addr) : Obj := { cls := .type (wkName b), data := .fields #[.ref l, .int 0 0] }
structure Leg (b : Bool) (it l : Addr) (xs : Array Value) (k : Nat) (h : Heap) : Prop where
  sq : Sq b h l xs
  wk : Wk b h it l k
section
variable {b : Bool} {it l : Addr} {xs : Array Value} {k : Nat} {h h' : Heap}
theorem Sq.far {c : Addr} (x : Sq b h l xs) (m : Heap.ExtBut c h h') (n : l ≠ c) : Sq b h' l xs := by
  cases b with
  | true => exact Heap.IsTuple.extBut (show h.IsTuple l xs from x) m n
  | false => exact Heap.IsList.extBut (show h.IsList l xs from x) m n
theorem Wk.far {c : Addr} (x : Wk b h it l k) (m : Heap.ExtBut c h h') (n : it ≠ c) : Wk b h' it l k := by
  cases b with
  | true => exact Heap.IsTupleIter.extBut (show h.IsTupleIter it l k from x) m n
  | false => exact Heap.IsListIter.extBut (show h.IsListIter it l k from x) m n
theorem Leg.far {c : Addr} (x : Leg b it l xs k h) (m : Heap.ExtBut c h h') (n1 : it ≠ c) (n2 : l ≠ c) : Leg b it l xs k h' := ⟨x.sq.far m n2, x.wk.far m n1⟩
theorem Wk.at (x : Wk b h it l k) (m : ∀ o, h.get? it = some o → h'.get? it = some o) : Wk b h' it l k := by
  cases b with
  | true => exact Heap.IsTupleIter.at (show h.IsTupleIter it l k from x) m
  | false => exact Heap.IsListIter.at (show h.IsListIter it l k from x) m
theorem Wk.ob (x : Wk b h it l k) : ∃ o, h.get? it = some o ∧ ∀ v, o.data ≠ .cell v := by
  cases b with
  | true =>
    obtain ⟨o, e, _, d⟩ := (show h.IsTupleIter it l k from x)
    exact ⟨o, e, fun v z => by rw [d] at z; cases z⟩
  | false =>
    obtain ⟨o, e, _, d⟩ := (show h.IsListIter it l k from x)
    exact ⟨o, e, fun v z => by rw [d] at z; cases z⟩
theorem Wk.lt (x : Wk b h it l k) : it < h.objs.size := let ⟨_, e, _⟩ := x.ob; Heap.lt_size e
variable {P : Program} {w : World} {A : Around} {E : Value → Shared → Prop} {s : Shared}
theorem Leg.item {x : Value} {Q : Value → Shared → Prop} (L : Leg b it l xs k s.heap) (apart : l ≠ it) (hx : xs[k]? = some x) (q : ∀ h', Leg b it l xs (k + 1) h' → Heap.SameBut it s.heap h' → Q x { s with heap := h' }) :
    wpAny (model P w) A (Builtin.SmallTypes.nextOf (.ref it)) Q E s := by
  obtain ⟨sq, wk⟩ := L
  cases b with
  | true => exact RZ.nextOf_tuple_item wk sq hx fun h' a m => q h' ⟨Sq.far (b := true) sq m.extBut apart, a⟩ m
  | false => exact wpAny_nextOf_list_item wk sq hx fun h' a m => q h' ⟨Sq.far (b := false) sq m.extBut apart, a⟩ m
theorem Leg.stop {Q : Value → Shared → Prop} (hh : A.handled = none) (L : Leg b it l xs k s.heap) (hx : xs[k]? = none)
    (q : ∀ h' e, Heap.ExtBut it s.heap h' → (∃ o, h'.get? e = some o ∧ o.cls = .type "StopIteration") → E (.ref e) { s with heap := h' }) : wpAny (model P w) A (Builtin.SmallTypes.nextOf (.ref it)) Q E s := by
  obtain ⟨sq, wk⟩ := L
  cases b with
  | true => exact RZ.nextOf_tuple_end hh wk sq hx q
  | false => exact wpAny_nextOf_list_end hh wk sq hx q
end
section
variable {P : Program} {w : World} {A : Around} {E : Value → Shared → Prop} {s : Shared} {b1 b2 : Bool} {z TI TO i1 i2 l1 l2 : Addr} {k : Nat} {xs ys : Array Value} {x y u v : Value}
structure Mid (b1 b2 : Bool) (z TI TO i1 i2 l1 l2 : Addr) (xs ys : Array Value) (k : Nat) (h : Heap) : Prop where
  z : IsZip h z TI TO .none
  ti : IsPair h TI (.ref i1) (.ref i2)
  to : ∃ u v, IsPair h TO u v
  a : Leg b1 i1 l1 xs k h
  b : Leg b2 i2 l2 ys k h
theorem turn_item {Q : Value → Shared → Prop} (D : ZipApart z TI TO i1 i2 l1 l2) (M : Mid b1 b2 z TI TO i1 i2 l1 l2 xs ys k s.heap) (hx : xs[k]? = some x) (hy : ys[k]? = some y)
    (hQ : ∀ h', IsZip h' z TI TO (rawInt s.heap.objs.size) → IsPair h' TO x y → Wk b1 h' i1 l1 (k + 1) → Wk b2 h' i2 l2 (k + 1) → IsPair h' s.heap.objs.size x y → h'.objs.size = s.heap.objs.size + 1 →
      (∀ c o, c ≠ z → c ≠ TO → c ≠ i1 → c ≠ i2 → s.heap.get? c = some o → h'.get? c = some o) → Q (.ref s.heap.objs.size) { s with heap := h' }) :
    wpAny (model P w) A (Builtin.«zip.__next__» ⟨[.ref z], []⟩) (fun fin s' => ∃ v, fin = .done (.ret v) ∧ Q v s') E s := by
  obtain ⟨Mz, Mi, ⟨u, v, Mo⟩, L1, L2⟩ := M
  show wpAny _ _ (field (.ref z) 2 >>= _) _ _ _
  refine wpAny_bind (wpAny_field Mz rfl (x := .bool false) rfl ?_)
  show wpAny _ _ (field (.ref z) 3 >>= _) _ _ _
  refine wpAny_bind (wpAny_field Mz rfl (x := .ref TI) rfl (wpAny_bind (wpAny_seqItems Mi rfl ?_)))
  show wpAny _ _ (Builtin.SmallTypes.ownedTupleIsFree (.ref z) >>= _) _ _ _
  unfold Builtin.SmallTypes.ownedTupleIsFree
  refine wpAny_bind (wpAny_bind (wpAny_field Mz rfl (x := .none) rfl (wpAny_pure ?_)))
  simp only [if_true]
  refine wpAny_bind (wpAny_rule (wpAny_bind (wpAny_field Mz rfl (x := .ref TO) rfl (wpAny_bind (wpAny_setField_rec Mz (by simp) fun g1 Gz1 S1 => ?_)))))
  have Gz1 : IsZip g1 z TI TO .ellipsis := Gz1
  refine wpAny_bind ?_
  simp only [List.zipIdx_cons, List.zipIdx_nil, List.forIn_cons, List.forIn_nil]
  have A1 : Leg b1 i1 l1 xs k g1 := L1.far S1.extBut D.i1z D.l1z
  have B1 : Leg b2 i2 l2 ys k g1 := L2.far S1.extBut D.i2z D.l2z
  have O1 : IsPair g1 TO u v := S1.extBut _ _ D.TOz Mo
  refine wpAny_bind (wpAny_bind (wpAny_onRaise ?_))
  show wpAny _ _ (Builtin.SmallTypes.nextOf (.ref i1) >>= _) _ _ _
  refine wpAny_bind (A1.item D.l1i1 hx fun g2 A2 S2 => wpAny_pure ?_)
  have B2 : Leg b2 i2 l2 ys k g2 := B1.far S2.extBut D.i12.symm D.l2i1
  have O2 : IsPair g2 TO u v := S2.extBut _ _ D.TOi1 O1
  refine wpAny_bind (wpAny_seqItems O2 rfl (wpAny_bind (wpAny_updateSeq_pair O2 fun g3 O3 S3 => ?_)))
  have O3 : IsPair g3 TO x v := O3
  refine wpAny_bind (wpAny_letGo (wpAny_pure ?_))
  have A3 : Leg b1 i1 l1 xs (k + 1) g3 := A2.far S3.extBut D.TOi1.symm D.l1TO
  have B3 : Leg b2 i2 l2 ys k g3 := B2.far S3.extBut D.TOi2.symm D.l2TO
  refine wpAny_bind (wpAny_bind (wpAny_onRaise ?_))
  show wpAny _ _ (Builtin.SmallTypes.nextOf (.ref i2) >>= _) _ _ _
  refine wpAny_bind (B3.item D.l2i2 hy fun g4 B4 S4 => wpAny_pure ?_)
  have A4 : Leg b1 i1 l1 xs (k + 1) g4 := A3.far S4.extBut D.i12 D.l1i2
  have O4 : IsPair g4 TO x v := S4.extBut _ _ D.TOi2 O3
  refine wpAny_bind (wpAny_seqItems O4 rfl (wpAny_bind (wpAny_updateSeq_pair O4 fun g5 O5 S5 => ?_)))
  have O5 : IsPair g5 TO x y := O5
  refine wpAny_bind (wpAny_letGo (wpAny_pure (wpAny_pure ?_)))
  have A5 : Leg b1 i1 l1 xs (k + 1) g5 := A4.far S5.extBut D.TOi1.symm D.l1TO
  have B5 : Leg b2 i2 l2 ys (k + 1) g5 := B4.far S5.extBut D.TOi2.symm D.l2TO
  have kept : ∀ c o, c ≠ z → c ≠ TO → c ≠ i1 → c ≠ i2 → s.heap.get? c = some o → g5.get? c = some o := fun c o n1 n2 n3 n4 e =>
    S5.extBut _ _ n2 (S4.extBut _ _ n4 (S3.extBut _ _ n2 (S2.extBut _ _ n3 (S1.extBut _ _ n1 e))))
  have Gz5 : IsZip g5 z TI TO .ellipsis := S5.extBut _ _ D.TOz.symm (S4.extBut _ _ D.i2z.symm (S3.extBut _ _ D.TOz.symm (S2.extBut _ _ D.i1z.symm Gz1)))
  have size : g5.objs.size = s.heap.objs.size := by rw [S5.1, S4.1, S3.1, S2.1, S1.1]
  have zl : z < g5.objs.size := Heap.lt_size Gz5
  refine wpAny_bind (wpAny_seqItems O5 rfl (wpAny_bind (wpAny_newTuple ?_)))
  show wpAny _ _ (Builtin.SmallTypes.ownedTupleHandOut (.ref z) (.ref g5.objs.size) >>= _) _ _ _
  unfold Builtin.SmallTypes.ownedTupleHandOut
  have Gz6 : IsZip (g5.push { cls := .type "tuple", data := .seq #[x, y] }) z TI TO .ellipsis := Heap.get?_push_of_some _ Gz5
  refine wpAny_bind (wpAny_bind (wpAny_setField_rec Gz6 (by simp) fun g7 Gz7 S7 => ?_))
  have Gz7 : IsZip g7 z TI TO (rawInt g5.objs.size) := Gz7
  refine wpAny_setField_rec Gz7 (by simp) fun g8 Gz8 S8 => ?_
  have Gz8 : IsZip g8 z TI TO (rawInt g5.objs.size) := Gz8
  have up : ∀ c o, c ≠ z → g5.get? c = some o → g8.get? c = some o := fun c o n e => S8.extBut _ _ n (S7.extBut _ _ n (Heap.get?_push_of_some _ e))
  have new : IsPair g8 g5.objs.size x y := S8.extBut _ _ (Nat.ne_of_gt zl) (S7.extBut _ _ (Nat.ne_of_gt zl) (Heap.get?_push_size _ rfl))
  have size8 : g8.objs.size = g5.objs.size + 1 := by rw [S8.1, S7.1, Heap.size_push]
  refine wpAny_pure ⟨_, rfl, ?_⟩
  show Q (.ref g5.objs.size) _
  rw [size] at Gz8 new size8 ⊢
  exact hQ g8 Gz8 (up _ _ D.TOz O5) (A5.wk.at fun o => up _ o D.i1z) (B5.wk.at fun o => up _ o D.i2z) new size8 fun c o n1 n2 n3 n4 e => up c o n1 (kept c o n1 n2 n3 n4 e)
end
end Zz

namespace Zz
open PySem PySem.Spec PyProof.Rows L2
section
variable {P : Program} {w : World} {A : Around} {E : Value → Shared → Prop} {s : Shared} {b1 b2 : Bool} {z TI TO i1 i2 l1 l2 : Addr} {k : Nat} {xs ys : Array Value} {x y u v : Value}
abbrev Far (z TO i1 i2 : Addr) (h h' : Heap) : Prop := ∀ c o, c ≠ z → c ≠ TO → c ≠ i1 → c ≠ i2 → h.get? c = some o → h'.get? c = some o
theorem turn_end {Q : Fin → Shared → Prop} (hh : A.handled = none) (D : ZipApart z TI TO i1 i2 l1 l2) (M : Mid b1 b2 z TI TO i1 i2 l1 l2 xs ys k s.heap) (he : xs[k]? = none ∨ ys[k]? = none)
    (hE : ∀ h' e, Far z TO i1 i2 s.heap h' → (∃ o, h'.get? e = some o ∧ o.cls = .type "StopIteration") → E (.ref e) { s with heap := h' }) : wpAny (model P w) A (Builtin.«zip.__next__» ⟨[.ref z], []⟩) Q E s := by
  obtain ⟨Mz, Mi, ⟨u, v, Mo⟩, L1, L2⟩ := M
  show wpAny _ _ (field (.ref z) 2 >>= _) _ _ _
  refine wpAny_bind (wpAny_field Mz rfl (x := .bool false) rfl ?_)
  show wpAny _ _ (field (.ref z) 3 >>= _) _ _ _
  refine wpAny_bind (wpAny_field Mz rfl (x := .ref TI) rfl (wpAny_bind (wpAny_seqItems Mi rfl ?_)))
  show wpAny _ _ (Builtin.SmallTypes.ownedTupleIsFree (.ref z) >>= _) _ _ _
  unfold Builtin.SmallTypes.ownedTupleIsFree
  refine wpAny_bind (wpAny_bind (wpAny_field Mz rfl (x := .none) rfl (wpAny_pure ?_)))
  simp only [if_true]
  refine wpAny_bind (wpAny_rule (wpAny_bind (wpAny_field Mz rfl (x := .ref TO) rfl (wpAny_bind (wpAny_setField_rec Mz (by simp) fun g1 Gz1 S1 => ?_)))))
  have Gz1 : IsZip g1 z TI TO .ellipsis := Gz1
  refine wpAny_bind ?_
  simp only [List.zipIdx_cons, List.zipIdx_nil, List.forIn_cons, List.forIn_nil]
  have A1 : Leg b1 i1 l1 xs k g1 := L1.far S1.extBut D.i1z D.l1z
  have B1 : Leg b2 i2 l2 ys k g1 := L2.far S1.extBut D.i2z D.l2z
  have O1 : IsPair g1 TO u v := S1.extBut _ _ D.TOz Mo
  refine wpAny_bind (wpAny_bind (wpAny_onRaise ?_))
  show wpAny _ _ (Builtin.SmallTypes.nextOf (.ref i1) >>= _) _ _ _
  have last : ∀ {g : Heap} {e : Addr}, IsZip g z TI TO .ellipsis → (∃ o, g.get? e = some o ∧ o.cls = .type "StopIteration") → e ≠ z := fun {g e} G he q => by
    obtain ⟨o, ho, hc⟩ := he
    rw [q, G] at ho
    cases ho
    simp at hc
  cases hx : xs[k]? with
  | none =>
    refine wpAny_bind (A1.stop hh hx fun g2 e S2 ⟨o, ho, hc⟩ => ?_)
    have Gz2 : IsZip g2 z TI TO .ellipsis := S2 _ _ D.i1z.symm Gz1
    have ne := last Gz2 ⟨o, ho, hc⟩
    exact wpAny_setField_rec Gz2 (by simp) fun g3 _ S3 => hE g3 e (fun c o n1 _ n3 _ q => S3.extBut _ _ n1 (S2 _ _ n3 (S1.extBut _ _ n1 q))) ⟨o, S3.extBut _ _ ne ho, hc⟩
  | some x =>
    have hy : ys[k]? = none := he.resolve_left fun q => by rw [hx] at q; cases q
    refine wpAny_bind (A1.item D.l1i1 hx fun g2 A2 S2 => wpAny_pure ?_)
    have B2 : Leg b2 i2 l2 ys k g2 := B1.far S2.extBut D.i12.symm D.l2i1
    have O2 : IsPair g2 TO u v := S2.extBut _ _ D.TOi1 O1
    refine wpAny_bind (wpAny_seqItems O2 rfl (wpAny_bind (wpAny_updateSeq_pair O2 fun g3 O3 S3 => ?_)))
    refine wpAny_bind (wpAny_letGo (wpAny_pure ?_))
    have B3 : Leg b2 i2 l2 ys k g3 := B2.far S3.extBut D.TOi2.symm D.l2TO
    refine wpAny_bind (wpAny_bind (wpAny_onRaise ?_))
    show wpAny _ _ (Builtin.SmallTypes.nextOf (.ref i2) >>= _) _ _ _
    refine wpAny_bind (B3.stop hh hy fun g4 e S4 ⟨o, ho, hc⟩ => ?_)
    have Gz4 : IsZip g4 z TI TO .ellipsis := S4 _ _ D.i2z.symm (S3.extBut _ _ D.TOz.symm (S2.extBut _ _ D.i1z.symm Gz1))
    have ne := last Gz4 ⟨o, ho, hc⟩
    exact wpAny_setField_rec Gz4 (by simp) fun g5 _ S5 => hE g5 e (fun c o n1 n2 n3 n4 q => S5.extBut _ _ n1 (S4 _ _ n4 (S3.extBut _ _ n2 (S2.extBut _ _ n3 (S1.extBut _ _ n1 q))))) ⟨o, S5.extBut _ _ ne ho, hc⟩
theorem next_item {Q : Option Value → Shared → Prop} (D : ZipApart z TI TO i1 i2 l1 l2) (M : Mid b1 b2 z TI TO i1 i2 l1 l2 xs ys k s.heap) (hx : xs[k]? = some x) (hy : ys[k]? = some y)
    (hQ : ∀ h', IsZip h' z TI TO (rawInt s.heap.objs.size) → IsPair h' TO x y → Wk b1 h' i1 l1 (k + 1) → Wk b2 h' i2 l2 (k + 1) → IsPair h' s.heap.objs.size x y → h'.objs.size = s.heap.objs.size + 1 →
      Far z TO i1 i2 s.heap h' → Q (some (.ref s.heap.objs.size)) { s with heap := h' }) : wpAny (model P w) A (pyNext (.ref z)) Q E s := by
  have ty : s.TypeIs (.ref z) "zip" := ⟨_, M.z, rfl⟩
  unfold pyNext
  exact wpAny_bind (wpAny_attempt (wpAny_callSpecial?_slot (name := Str.ofString "__next__") ty F.slot_zip_next (wpAny_call_entry F.slot_zip_next ty F.entry_zip_next
    (turn_item D M hx hy fun h' a1 a2 a3 a4 a5 a6 a7 => wpAny_pure (hQ h' a1 a2 a3 a4 a5 a6 a7)) (F.args_zip_next_1 _))))
theorem next_end {Q : Option Value → Shared → Prop} (hh : A.handled = none) (D : ZipApart z TI TO i1 i2 l1 l2) (M : Mid b1 b2 z TI TO i1 i2 l1 l2 xs ys k s.heap) (he : xs[k]? = none ∨ ys[k]? = none)
    (hQ : ∀ h', Far z TO i1 i2 s.heap h' → Q none { s with heap := h' }) : wpAny (model P w) A (pyNext (.ref z)) Q E s := by
  have ty : s.TypeIs (.ref z) "zip" := ⟨_, M.z, rfl⟩
  unfold pyNext
  refine wpAny_bind (wpAny_attempt (wpAny_callSpecial?_slot (name := Str.ofString "__next__") ty F.slot_zip_next (wpAny_call_entry F.slot_zip_next ty F.entry_zip_next
    (turn_end (by simpa using hh) D M he fun h' e far ⟨o, ho, hc⟩ => ?_) (F.args_zip_next_1 _))))
  exact wpAny_bind (wpAny_isInstance (T := "StopIteration") (b := true) ⟨o, ho, hc⟩ isSubtype_stop (wpAny_pure (hQ _ far)))
abbrev g1 (b1 : Bool) (h : Heap) (l1 : Addr) : Heap := h.push (wkObj b1 l1)
abbrev g2 (b1 b2 : Bool) (h : Heap) (l1 l2 : Addr) : Heap := (g1 b1 h l1).push (wkObj b2 l2)
abbrev g3 (b1 b2 : Bool) (h : Heap) (l1 l2 : Addr) : Heap := (g2 b1 b2 h l1 l2).push { cls := .type "tuple", data := .seq #[.ref h.objs.size, .ref (g1 b1 h l1).objs.size] }
abbrev g4 (b1 b2 : Bool) (h : Heap) (l1 l2 : Addr) : Heap := (g3 b1 b2 h l1 l2).push { cls := .type "tuple", data := .seq #[.none, .none] }
abbrev g5 (b1 b2 : Bool) (h : Heap) (l1 l2 : Addr) : Heap := (g4 b1 b2 h l1 l2).push { cls := .type "zip", data := .fields #[.none, .bool false, .bool false, .ref (g2 b1 b2 h l1 l2).objs.size, .ref (g3 b1 b2 h l1 l2).objs.size] }
theorem Sq.push {b : Bool} {h : Heap} {l : Addr} {xs : Array Value} {o : Obj} (x : Sq b h l xs) : Sq b (h.push o) l xs := by
  cases b with
  | true => exact Heap.IsTuple.push (show h.IsTuple l xs from x) _
  | false => exact Heap.IsList.push (show h.IsList l xs from x) _
theorem new_zip (b1 b2 : Bool) (l1 l2 : Addr) (xs ys : Array Value) :
    Meets (Builtin.«zip.__new__» ⟨[.type "zip", .ref l1, .ref l2], []⟩) (fun _ R s => Sq b1 s.heap l1 xs ∧ Sq b2 s.heap l2 ys ∧ R (.ok (.ret (.ref (g4 b1 b2 s.heap l1 l2).objs.size))) { s with heap := g5 b1 b2 s.heap l1 l2 }) :=
  .of_wp fun prog w A R s h => by
    obtain ⟨hp, g, d, tk, os⟩ := s
    obtain ⟨h1, h2, h⟩ := h
    have hsub := sub_zip
    have s1 : Sq b1 (Shared.heap ⟨hp, g, d, tk, os⟩) l1 xs := h1
    have s2 : Sq b2 (Shared.heap ⟨hp.push (wkObj b1 l1), g, d, tk, os⟩) l2 ys := Sq.push h2
    cases b1 <;> cases b2
    · have e1 : Heap.IsList (Shared.heap ⟨hp, g, d, tk, os⟩) l1 xs := s1
      have e2 : Heap.IsList (Shared.heap ⟨hp.push { cls := .type "list_iterator", data := .fields #[.ref l1, .int 0 0] }, g, d, tk, os⟩) l2 ys := s2
      wp_walk using wpAny_pyIter_list e1, wpAny_pyIter_list e2
      exact ⟨_, rfl, h⟩
    · have e1 : Heap.IsList (Shared.heap ⟨hp, g, d, tk, os⟩) l1 xs := s1
      have e2 : Heap.IsTuple (Shared.heap ⟨hp.push { cls := .type "list_iterator", data := .fields #[.ref l1, .int 0 0] }, g, d, tk, os⟩) l2 ys := s2
      wp_walk using wpAny_pyIter_list e1, wpAny_pyIter_tuple e2
      exact ⟨_, rfl, h⟩
    · have e1 : Heap.IsTuple (Shared.heap ⟨hp, g, d, tk, os⟩) l1 xs := s1
      have e2 : Heap.IsList (Shared.heap ⟨hp.push { cls := .type "tuple_iterator", data := .fields #[.ref l1, .int 0 0] }, g, d, tk, os⟩) l2 ys := s2
      wp_walk using wpAny_pyIter_tuple e1, wpAny_pyIter_list e2
      exact ⟨_, rfl, h⟩
    · have e1 : Heap.IsTuple (Shared.heap ⟨hp, g, d, tk, os⟩) l1 xs := s1
      have e2 : Heap.IsTuple (Shared.heap ⟨hp.push { cls := .type "tuple_iterator", data := .fields #[.ref l1, .int 0 0] }, g, d, tk, os⟩) l2 ys := s2
      wp_walk using wpAny_pyIter_tuple e1, wpAny_pyIter_tuple e2
      exact ⟨_, rfl, h⟩
theorem wk_new {b : Bool} {h : Heap} {l it : Addr} (e : h.get? it = some (wkObj b l)) : Wk b h it l 0 := by
  cases b with
  | true => exact ⟨_, e, rfl, rfl⟩
  | false => exact ⟨_, e, rfl, rfl⟩
theorem call_zip {Q : Value → Shared → Prop} (h1 : Sq b1 s.heap l1 xs) (h2 : Sq b2 s.heap l2 ys)
    (h : ∀ h', IsZip h' (s.heap.objs.size + 4) (s.heap.objs.size + 2) (s.heap.objs.size + 3) .none → IsPair h' (s.heap.objs.size + 2) (.ref s.heap.objs.size) (.ref (s.heap.objs.size + 1)) →
      IsPair h' (s.heap.objs.size + 3) .none .none → Wk b1 h' s.heap.objs.size l1 0 → Wk b2 h' (s.heap.objs.size + 1) l2 0 →
      (∀ c o, s.heap.get? c = some o → h'.get? c = some o) → Q (.ref (s.heap.objs.size + 4)) { s with heap := h' }) : wpAny (model P w) A (call (.type "zip") [.ref l1, .ref l2]) Q E s := by
  refine callType_new F.called_zip (by decide) (F.typeCall_zip_2 _ _) (F.newCall_zip_2 _ _) (fun obj => F.args_object_init_3 obj _ _) F.entry_zip_new (new_zip b1 b2 l1 l2 xs ys) ⟨h1, h2, ?_⟩
  have n1 : (g1 b1 s.heap l1).objs.size = s.heap.objs.size + 1 := Heap.size_push ..
  have n2 : (g2 b1 b2 s.heap l1 l2).objs.size = s.heap.objs.size + 2 := by rw [Heap.size_push, n1]
  have n3 : (g3 b1 b2 s.heap l1 l2).objs.size = s.heap.objs.size + 3 := by rw [Heap.size_push, n2]
  have n4 : (g4 b1 b2 s.heap l1 l2).objs.size = s.heap.objs.size + 4 := by rw [Heap.size_push, n3]
  have o5 : (g5 b1 b2 s.heap l1 l2).get? (g4 b1 b2 s.heap l1 l2).objs.size = some _ := Heap.get?_push_size _ rfl
  have o4 : (g5 b1 b2 s.heap l1 l2).get? (g3 b1 b2 s.heap l1 l2).objs.size = some _ := Heap.get?_push_of_some _ (Heap.get?_push_size _ rfl)
  have o3 : (g5 b1 b2 s.heap l1 l2).get? (g2 b1 b2 s.heap l1 l2).objs.size = some _ := Heap.get?_push_of_some _ (Heap.get?_push_of_some _ (Heap.get?_push_size _ rfl))
  have o2 : (g5 b1 b2 s.heap l1 l2).get? (g1 b1 s.heap l1).objs.size = some (wkObj b2 l2) := Heap.get?_push_of_some _ (Heap.get?_push_of_some _ (Heap.get?_push_of_some _ (Heap.get?_push_size _ rfl)))
  have o1 : (g5 b1 b2 s.heap l1 l2).get? s.heap.objs.size = some (wkObj b1 l1) := Heap.get?_push_of_some _ (Heap.get?_push_of_some _ (Heap.get?_push_of_some _ (Heap.get?_push_of_some _ (Heap.get?_push_size _ rfl))))
  show _ ∧ _
  rw [n2, n3, n4] at o5
  rw [n1, n2] at o3
  rw [n3] at o4
  rw [n1] at o2
  rw [n4]
  exact ⟨⟨_, o5, rfl⟩, h _ o5 o3 o4 (wk_new o1) (wk_new o2) fun c o q => Heap.get?_push_of_some _ (Heap.get?_push_of_some _ (Heap.get?_push_of_some _ (Heap.get?_push_of_some _ (Heap.get?_push_of_some _ q))))⟩
end
end Zz

namespace Zz
open PySem PySem.Spec PyProof.Rows L2 Dl
def SqV (K : PySem.W.Frag) : Bool → Hp → Addr → List V → Prop
  | true, H, a, xs => SqT K H a xs
  | false, H, a, xs => SqL K H a xs
section
variable {X : Cx} {pins : List (Addr × Obj)} {σ : L2.St} {H : Hp} {s : Shared} {b : Bool} {a : Addr} {xs ys : List V}
theorem SqV.vals (I : Inv X pins σ H s) (h : SqV X.K b H a xs) : ∃ its, Vals xs its ∧ Sq b s.heap a its.toArray := by
  cases b with
  | true =>
    obtain ⟨its, rv, p, _⟩ := I.tuple (show SqT X.K H a xs from h)
    exact ⟨its, rv, p⟩
  | false =>
    obtain ⟨its, rv, p, _⟩ := I.list (show SqL X.K H a xs from h)
    exact ⟨its, rv, p.isList⟩
theorem SqV.inj (I : Inv X pins σ H s) (h : SqV X.K b H a xs) (h2 : SqV X.K b H a ys) : xs = ys := by
  cases b with
  | true => exact I.tuple_inj h h2
  | false => exact I.list_inj h h2
end
theorem Sq.lt {b : Bool} {h : Heap} {l : Addr} {xs : Array Value} (x : Sq b h l xs) : l < h.objs.size := by
  cases b with
  | true => obtain ⟨o, ho, _⟩ := (show h.IsTuple l xs from x); exact Heap.lt_size ho
  | false => obtain ⟨o, ho, _⟩ := (show h.IsList l xs from x); exact Heap.lt_size ho
def Itw (K : PySem.W.Frag) (b1 b2 : Bool) (l1 l2 : Addr) : It :=
  ⟨fun i H => ∃ (xs ys : List V) (x y : V), SqV K b1 H l1 xs ∧ SqV K b2 H l2 ys ∧ xs[i]? = some x ∧ ys[i]? = some y,
    fun i H v H' => ∃ T x y, v = .ref T ∧ H T = none ∧ H' = upd H T (.tup [x, y]) ∧ (∀ xs, SqV K b1 H l1 xs → xs[i]? = some x) ∧ ∀ ys, SqV K b2 H l2 ys → ys[i]? = some y,
    fun i H => ∃ xs ys : List V, SqV K b1 H l1 xs ∧ SqV K b2 H l2 ys ∧ (xs.length ≤ i ∨ ys.length ≤ i)⟩
theorem five {c z TI TO i1 i2 : Addr} (h : c ∈ [z, TI, TO, i1, i2]) : c = z ∨ c = TI ∨ c = TO ∨ c = i1 ∨ c = i2 := by simpa using h
theorem turn_zip {P : Program} {w : World} {K : PySem.W.Frag} {b1 b2 : Bool} {elts : List Expr} {kk : Nat} {tpos : Pos} {l1 l2 z TI TO i1 i2 : Addr} (D : ZipApart z TI TO i1 i2 l1 l2) :
    Turn P w K (.Tuple elts kk tpos) (Itw K b1 b2 l1 l2) [z, TI, TO, i1, i2] z (fun i h => IsZip h z TI TO .none ∧ IsPair h TI (.ref i1) (.ref i2) ∧ (∃ x y, IsPair h TO x y) ∧ Wk b1 h i1 l1 i ∧ Wk b2 h i2 l2 i) where
  mem := List.mem_cons_self
  obj := fun i h st c hc => by
    obtain ⟨m1, m2, ⟨x, y, m3⟩, m4, m5⟩ := st
    rcases five hc with q | q | q | q | q <;> subst q
    · exact ⟨_, m1, fun v q => nomatch q⟩
    · exact ⟨_, m2, fun v q => nomatch q⟩
    · exact ⟨_, m3, fun v q => nomatch q⟩
    · exact m4.ob
    · exact m5.ob
  keep := fun i h h' st k => by
    obtain ⟨m1, m2, ⟨x, y, m3⟩, m4, m5⟩ := st
    exact ⟨k z (by simp) _ m1, k TI (by simp) _ m2, ⟨x, y, k TO (by simp) _ m3⟩, m4.at fun o q => k i1 (by simp) o q, m5.at fun o q => k i2 (by simp) o q⟩
  item := by
    intro X hP hw hK hc i pins s σ H E I hf st hg
    subst hP hw hK
    obtain ⟨m1, m2, m3, m4, m5⟩ := st
    obtain ⟨xs, ys, x, y, q1, q2, hx, hy⟩ := hg
    obtain ⟨us, r1, p1⟩ := q1.vals I
    obtain ⟨ws, r2, p2⟩ := q2.vals I
    obtain ⟨u, hu, ru⟩ := r1.get hx
    obtain ⟨v, hv, rv⟩ := r2.get hy
    have zl : z < s.heap.objs.size := Heap.lt_size m1
    refine next_item D ⟨m1, m2, m3, ⟨p1, m4⟩, ⟨p2, m5⟩⟩ (x := u) (y := v) (by simpa using hu) (by simpa using hv) fun h' n1 n3 n4 n5 nT _ far => ?_
    refine ⟨_, rfl, wpAny_letOwnedTupleGo_zip (s := { s with heap := h' }) n1 fun h'' n1' sb => ?_⟩
    have tup : h''.get? s.heap.objs.size = some { cls := .type "tuple", data := .seq #[u, v] } := (sb.2 _ (Nat.ne_of_gt zl)).trans nT
    have new : ObjOk X.prog X.w (upd H s.heap.objs.size (.tup [x, y])) h'' s.heap.objs.size (.tup [x, y]) := ⟨by show 2 ≤ sizeLine; decide, [u, v], .cons ru (.cons rv .nil), ⟨_, tup, rfl, _, rfl⟩⟩
    have J : Inv X pins σ (upd H s.heap.objs.size (.tup [x, y])) { s with heap := h'' } :=
      I.turnedNew (t' := s.toks) (ch := [z, TI, TO, i1, i2]) (fun c o nb q => (sb.2 c fun e => nb (by simp [e])).trans (far c o (fun e => nb (by simp [e])) (fun e => nb (by simp [e])) (fun e => nb (by simp [e])) (fun e => nb (by simp [e])) q)) hf (Nat.le_refl _) new
    refine ⟨.ref s.heap.objs.size, _, J, rfl, ⟨_, x, y, rfl, I.hok.fresh (Nat.le_refl _), rfl, fun l hl => by rw [SqV.inj I hl q1]; exact hx, fun l hl => by rw [SqV.inj I hl q2]; exact hy⟩,
      ⟨n1', (sb.2 _ D.TIz).trans (far _ _ D.TIz D.TITO D.TIi1 D.TIi2 m2), ⟨u, v, (sb.2 _ D.TOz).trans n3⟩, n4.at fun o q => (sb.2 _ D.i1z).trans q, n5.at fun o q => (sb.2 _ D.i2z).trans q⟩, fun c hcm => ?_⟩
    have lt : c < s.heap.objs.size := by
      obtain ⟨_, _, m3o⟩ := m3
      rcases five hcm with q | q | q | q | q <;> subst q
      · exact zl
      · exact Heap.lt_size m2
      · exact Heap.lt_size m3o
      · exact m4.lt
      · exact m5.lt
    rw [upd_ne (Nat.ne_of_lt lt)]
    exact (hf c hcm).1
  done := by
    intro X hP hw hK hc i pins s σ H E I hf st hg
    subst hP hw hK
    obtain ⟨m1, m2, m3, m4, m5⟩ := st
    obtain ⟨xs, ys, q1, q2, he⟩ := hg
    obtain ⟨us, r1, p1⟩ := q1.vals I
    obtain ⟨ws, r2, p2⟩ := q2.vals I
    have n1 := r1.length
    have n2 := r2.length
    refine next_end (I.ok.hd hc) D ⟨m1, m2, m3, ⟨p1, m4⟩, ⟨p2, m5⟩⟩ (he.imp (fun q => by simp; omega) fun q => by simp; omega) fun h' far => ⟨rfl, I.turnedL (t' := s.toks) (ch := [z, TI, TO, i1, i2]) (fun c o nb q =>
      far c o (fun e => nb (by simp [e])) (fun e => nb (by simp [e])) (fun e => nb (by simp [e])) (fun e => nb (by simp [e])) q) hf⟩
  self := fun A i s Q E st h => wpAny_pyIter_zip st.1 h
def iZipW (K : PySem.W.Frag) (ta : L2.TA) : TI := fun σ H R => ta σ H fun vs H1 => ∃ (b1 b2 : Bool) (l1 l2 : Addr) (xs ys : List V), vs = [.ref l1, .ref l2] ∧ SqV K b1 H1 l1 xs ∧ SqV K b2 H1 l2 ys ∧ R (Itw K b1 b2 l1 l2) H1
theorem pi_zipW {X : Cx} {e e2 : Expr} {ta : L2.TA} {p pos tpos : Pos} {elts : List Expr} {kk : Nat} (hg : Gl X "zip") (hm : X.mg "zip" = none) (ha : PA X [e, e2] ta)
    (hs : starEach [e, e2] X.env = (false, eval e X.env) :: starEach [e2] X.env := by rfl) (hpl : (backTo pos (starEach [e2] X.env)).any (·.1) = false := by rfl) :
    PI X (.Tuple elts kk tpos) (.Call (.Name "zip" p) [e, e2] [] pos) (iZipW X.K ta) := by
  refine ⟨fun pins s σ H R I h => ?_⟩
  refine Call_ (ld_blt I hg hm PyProof.Rows.boot_zip (PyProof.Rows.callWith_type1 (thn (ha.run pos pins s σ H _ I h) fun us s1 ⟨vs, H1, I1, r1, b1, b2, l1, l2, xs, ys, e, q1, q2, q⟩ => ?_) hs hpl))
  subst e
  obtain ⟨rfl⟩ : us = [Value.ref l1, Value.ref l2] := by
    cases r1 with
    | cons a r =>
      cases r with
      | cons b r =>
        cases r
        cases a
        cases b
        rfl
  obtain ⟨_, _, p1⟩ := q1.vals I1
  obtain ⟨_, _, p2⟩ := q2.vals I1
  refine call_zip p1 p2 fun h' m1 m2 m3 m4 m5 keep => wpAny_pyIter_zip m1 ?_
  have I2 : Inv X pins σ H1 { s1 with heap := h' } := I1.kept (t' := s1.toks) keep
  refine ⟨s1.heap.objs.size + 4, [s1.heap.objs.size + 4, s1.heap.objs.size + 2, s1.heap.objs.size + 3, s1.heap.objs.size, s1.heap.objs.size + 1], _, _, H1, rfl, I2, turn_zip (PySem.W.ktu_apart s1.heap.objs.size l1 l2 p1.lt p2.lt), ⟨m1, m2, ⟨_, _, m3⟩, m4, m5⟩, fun c hc => ?_, q⟩
  have le : s1.heap.objs.size ≤ c := by
    rcases five hc with q | q | q | q | q <;> subst q
    · exact Nat.le_add_right _ _
    · exact Nat.le_add_right _ _
    · exact Nat.le_add_right _ _
    · exact Nat.le_refl _
    · exact Nat.le_add_right _ _
  exact I1.fpOk le (I1.hok.fresh le)
def zipD : List D → List D → List D
  | x :: xs, y :: ys => .tup [x, y] :: zipD xs ys
  | _, _ => []
theorem zipD_len : ∀ xs ys : List D, (zipD xs ys).length = min xs.length ys.length
  | x :: xs, y :: ys => by simp only [zipD, List.length_cons, zipD_len xs ys]; omega
  | [], ys => by simp [zipD]
  | _ :: _, [] => by simp [zipD]
theorem zipD_get : ∀ {xs ys : List D} {i : Nat} {x y : D}, xs[i]? = some x → ys[i]? = some y → (zipD xs ys)[i]? = some (.tup [x, y])
  | a :: xs, b :: ys, 0, x, y, h1, h2 => by
    rw [List.getElem?_cons_zero] at h1 h2
    cases h1
    cases h2
    rfl
  | a :: xs, b :: ys, i + 1, x, y, h1, h2 => by
    rw [List.getElem?_cons_succ] at h1 h2
    simp only [zipD, List.getElem?_cons_succ]
    exact zipD_get h1 h2
  | [], _, _, _, _, h1, _ => by simp at h1
  | _ :: _, [], _, _, _, _, h2 => by simp at h2
theorem seq_sqv {K : PySem.W.Frag} {Av : Addr → Prop} {H : Hp} {v : V} {d : D} {ds : List D} (h : Den K Av H v d) (e : seqOf d = some ds) : ∃ (b : Bool) (a : Addr) (vs : List V), v = .ref a ∧ SqV K b H a vs ∧ DenA K Av H vs ds := by
  cases d <;> simp only [seqOf, Option.some.injEq] at e <;> simp only [Den] at h
  case tup xs =>
    subst e
    obtain ⟨a, vs, rfl, s, n, r⟩ := h
    exact ⟨true, a, vs, rfl, s, r⟩
  case lst xs =>
    subst e
    obtain ⟨a, vs, rfl, s, n, r⟩ := h
    exact ⟨false, a, vs, rfl, SqL.of s, r⟩
  all_goals cases e
def tupB : D → Bool
  | .tup _ => true
  | _ => false
theorem seq_sqb {K : PySem.W.Frag} {Av : Addr → Prop} {H : Hp} {a : Addr} {d : D} {ds : List D} (h : Den K Av H (.ref a) d) (e : seqOf d = some ds) : ∃ vs : List V, SqV K (tupB d) H a vs ∧ DenA K Av H vs ds := by
  cases d <;> simp only [seqOf, Option.some.injEq] at e <;> simp only [Den] at h
  case tup xs =>
    subst e
    obtain ⟨a', vs, q, s, n, r⟩ := h
    cases q
    exact ⟨vs, s, r⟩
  case lst xs =>
    subst e
    obtain ⟨a', vs, q, s, n, r⟩ := h
    cases q
    exact ⟨vs, SqL.of s, r⟩
  all_goals cases e
theorem itd_zip {X : Cx} {l1 l2 : Addr} {d1 d2 : D} {xs ys : List D} (e1 : seqOf d1 = some xs) (e2 : seqOf d2 = some ys) :
    ItD X.K (Itw X.K (tupB d1) (tupB d2) l1 l2) [(.ref l1, d1), (.ref l2, d2)] (zipD xs ys) := fun Av H hw hav => by
  obtain ⟨vs, s1, r1⟩ := seq_sqb (hw _ List.mem_cons_self) e1
  obtain ⟨ws, s2, r2⟩ := seq_sqb (hw _ (List.mem_cons_of_mem _ List.mem_cons_self)) e2
  refine ⟨fun i hi => ?_, vs, ws, s1, s2, by rw [r1.len, r2.len, zipD_len]; omega⟩
  rw [zipD_len] at hi
  have hx : i < xs.length := by omega
  have hy : i < ys.length := by omega
  obtain ⟨x, q1, x1⟩ := r1.get (List.getElem?_eq_getElem hx)
  obtain ⟨y, q2, y1⟩ := r2.get (List.getElem?_eq_getElem hy)
  refine ⟨⟨vs, ws, x, y, s1, s2, q1, q2⟩, fun v H' ⟨T, x', y', e1, hT, e2, u1, u2⟩ => ?_⟩
  subst e1 e2
  have z1 := u1 vs s1
  have z2 := u2 ws s2
  rw [q1] at z1
  rw [q2] at z2
  cases z1
  cases z2
  exact ⟨Kp.new hT, _, zipD_get (List.getElem?_eq_getElem hx) (List.getElem?_eq_getElem hy), pair_den hT (fun z => hav T z hT) x1 y1⟩
end Zz

namespace Zz
open PySem PySem.Spec PyProof.Rows L2 Dl
def idZipV (i j : Nat) : TID := fun env Q => ∃ d1 d2 xs ys, env[i]? = some (.val d1) ∧ env[j]? = some (.val d2) ∧ seqOf d1 = some xs ∧ seqOf d2 = some ys ∧ Q (zipD xs ys)
section
variable {X : Cx} {g : Gx} {e e2 : Expr} {p pos tpos : Pos} {elts : List Expr} {kk : Nat} {tas : TAD}
theorem si_zip {b : B0} {σ : L2.St} {H : Hp} {env : DEnv} {I : HI} {R : It → Hp → Prop} {v1 v2 : V} {d1 d2 : D} {xs ys : List D} (hd : DenE X.K I ⟨b.H0, (v1, d1) :: (v2, d2) :: b.hs⟩ σ H env) (e1 : seqOf d1 = some xs) (e2 : seqOf d2 = some ys)
    (k : ∀ J hw, DenE X.K I ⟨b.H0, hw ++ b.hs⟩ σ H env → ItD X.K J hw (zipD xs ys) → R J H) : ∃ (b1 b2 : Bool) (l1 l2 : Addr) (us ws : List V), [v1, v2] = [.ref l1, .ref l2] ∧ SqV X.K b1 H l1 us ∧ SqV X.K b2 H l2 ws ∧ R (Itw X.K b1 b2 l1 l2) H := by
  obtain ⟨oa, _, _, _, h4⟩ := hd.slots
  have n1 := h4 _ List.mem_cons_self
  have n2 := h4 _ (List.mem_cons_of_mem _ List.mem_cons_self)
  obtain ⟨_, l1, _, rfl, _, _⟩ := seq_sqv n1 e1
  obtain ⟨_, l2, _, rfl, _, _⟩ := seq_sqv n2 e2
  obtain ⟨us, s1, _⟩ := seq_sqb n1 e1
  obtain ⟨ws, s2, _⟩ := seq_sqb n2 e2
  exact ⟨_, _, l1, l2, us, ws, rfl, s1, s2, k _ [(.ref l1, d1), (.ref l2, d2)] hd (itd_zip e1 e2)⟩
theorem di_zipV (i j : Nat) {x y : Str} {p1 p2 : Pos} (hg : Gl X "zip") (hm : X.mg "zip" = none) (hN : X.N[i]? = some x := by rfl) (hv : Vis X.env.scope x := by first | exact Or.inl rfl | exact Or.inr (Or.inl rfl) | exact Or.inr (Or.inr rfl))
    (hN2 : X.N[j]? = some y := by rfl) (hv2 : Vis X.env.scope y := by first | exact Or.inl rfl | exact Or.inr (Or.inl rfl) | exact Or.inr (Or.inr rfl))
    (hd : (x == ("__debug__" : Str)) = false := by decide) (hcd : (x == ("__classdict__" : Str)) = false := by decide) (hd2 : (y == ("__debug__" : Str)) = false := by decide) (hcd2 : (y == ("__classdict__" : Str)) = false := by decide)
    (hs : starEach [Expr.Name x p1, .Name y p2] X.env = (false, eval (.Name x p1) X.env) :: starEach [.Name y p2] X.env := by rfl) (hs2 : starEach [Expr.Name y p2] X.env = (false, eval (.Name y p2) X.env) :: starEach [] X.env := by rfl) (hpl : (backTo pos (starEach [Expr.Name y p2] X.env)).any (·.1) = false := by rfl) :
    PID X g (.Tuple elts kk tpos) (.Call (.Name "zip" p) [.Name x p1, .Name y p2] [] pos) (idZipV i j) :=
  pid_of (pi_zipW hg hm (pa_cons (pe_var hN hv hd hcd) (pa_cons (pe_var hN2 hv2 hd2 hcd2) pa_nil hs2) hs) hs hpl) fun b σ H env Qd R hd xl ⟨d1, d2, xs, ys, e1, e2, s1, s2, q⟩ k => by
    obtain ⟨oa, h1, h2, h3, h4⟩ := hd.slots
    obtain ⟨v1, q1, n1⟩ := h3 i d1 e1
    obtain ⟨v2, q2, n2⟩ := h3 j d2 e2
    refine ⟨v1, q1, v2, q2, si_zip (b := b) (env := env) (σ := σ) (d1 := d1) (d2 := d2) ⟨hd.len, hd.ext, oa, h1, h2, h3, fun p hp => ?_⟩ s1 s2 fun J hw hd2 it => k J H hw _ hd2 (.refl hd.ok) it q⟩
    rcases List.mem_cons.mp hp with z | hp
    · rw [z]; exact n1
    · rcases List.mem_cons.mp hp with z | hp
      · rw [z]; exact n2
      · exact h4 p hp
end
end Zz

namespace Dl
open PySem PySem.Spec PyProof.Rows L2 Zs
def topI : List Int → Int
  | [] => -1
  | n :: ns => if topI ns < n then n else topI ns
def isSeqI (x : D) (ns : List Int) : Prop := seqOf x = some (ns.map D.int)
structure Std (ns : List Int) : Prop where
  pos : ∀ n ∈ ns, 0 ≤ n
  few : ns.length ≤ 7
  full : ((canon ns).length : Int) = topI ns + 1
def rankIn (cs : List Int) (n : Int) : Int := ((cs.findIdx fun c => c == n : Nat) : Int)
def ranksOf (ns : List Int) : List Int := ns.map (rankIn (canon ns))
def offLen (pl : D) (n : Nat) : Bool := match pl with
  | .int p => decide ((n : Int) ≠ p)
  | _ => false
def stdAsk (K : PySem.W.Frag) (x pl : D) (Q : List Int → Prop) (E : Exc → Prop) : Prop := x.tyn.isSome = true ∧ isOpt pl ∧ match seqOf x with
  | none => E (excI K "BadStanding" (-1))
  | some xs => allTy xs ∧ if 7 < xs.length then E (excI K "BadStanding" (-1)) else if offLen pl xs.length = true then E (excI K "BadStanding" (-1)) else
    match fstBad (fun _ d => !isWh d (.int 0) .non) [] xs with
    | some i => E (excI K "BadStanding" i)
    | none => ∃ ns : List Int, xs = ns.map D.int ∧ if ((canon ns).length : Int) = topI ns + 1 then Q ns else E (excI K "BadStanding" (-1))
def C_check_standing (K : PySem.W.Frag) : Ct := fun ds Q E => ∃ x pl, ds = [x, pl] ∧ stdAsk K x pl (fun ns => Q (.tup (ns.map D.int))) E
theorem ar_check_standing (K : PySem.W.Frag) : Ar 2 (C_check_standing K) := fun _ _ _ ⟨_, _, e, _⟩ => by rw [e]; rfl
def C_ranks_number (K : PySem.W.Frag) : Ct := fun ds Q E => ∃ x, ds = [x] ∧ stdAsk K x .non (fun ns => Q (.int (topI ns + 1))) E
theorem ar_ranks_number (K : PySem.W.Frag) : Ar 1 (C_ranks_number K) := fun _ _ _ ⟨_, e, _⟩ => by rw [e]; rfl
def C_standing_of (K : PySem.W.Frag) : Ct := fun ds Q _ => ∃ x ns, ds = [x] ∧ isSeqI x ns ∧ ns.length < 64 ∧ Q (.tup ((ranksOf ns).map D.int))
theorem ar_standing_of (K : PySem.W.Frag) : Ar 1 (C_standing_of K) := fun _ _ _ ⟨_, _, e, _⟩ => by rw [e]; rfl
def C__law_ranks (K : PySem.W.Frag) : Ct := fun ds Q _ => ∃ x ns, ds = [x] ∧ isSeqI x ns ∧ ns.length < 64 ∧ Q (.tup ((ranksOf ns).map D.int))
theorem ar__law_ranks (K : PySem.W.Frag) : Ar 1 (C__law_ranks K) := fun _ _ _ ⟨_, _, e, _⟩ => by rw [e]; rfl
theorem topI_ge : ∀ {ns : List Int} {y : Int}, y ∈ ns → y ≤ topI ns
  | n :: ns, y, h => by
    unfold topI
    rcases List.mem_cons.mp h with e | h
    · subst e; split <;> omega
    · have := topI_ge h
      split <;> omega
theorem topI_lo : ∀ ns : List Int, -1 ≤ topI ns
  | [] => by decide
  | n :: ns => by
    have := topI_lo ns
    unfold topI
    split <;> omega
theorem topI_mem : ∀ {ns : List Int}, ns ≠ [] → (∀ n ∈ ns, 0 ≤ n) → topI ns ∈ ns
  | [n], _, h => by
    have := h n List.mem_cons_self
    unfold topI topI
    rw [if_pos (by omega)]
    exact List.mem_cons_self
  | n :: m :: ns, _, h => by
    have ih := topI_mem (ns := m :: ns) (by simp) fun k hk => h k (List.mem_cons_of_mem _ hk)
    unfold topI
    split
    · exact List.mem_cons_self
    · exact List.mem_cons_of_mem _ ih
theorem topI_top {ns : List Int} {m : Int} (h : ∀ n ∈ ns, 0 ≤ n) (t : Top true ns m) : m = topI ns := by
  have ne : ns ≠ [] := fun e => by
    have := t.1
    rw [e] at this
    cases this
  have a := t.2 _ (topI_mem ne h)
  rw [if_pos rfl] at a
  have b := topI_ge t.1
  omega
theorem isSeqI_cases {x : D} {ns : List Int} (h : isSeqI x ns) : x = .tup (ns.map D.int) ∨ x = .lst (ns.map D.int) := seq_cases h
theorem ints_of_wh {lo : Int} : ∀ {xs pre : List D}, fstBad (fun _ d => !isWh d (.int lo) .non) pre xs = none → ∃ ns : List Int, xs = ns.map D.int ∧ ∀ n ∈ ns, lo ≤ n
  | [], _, _ => ⟨[], rfl, fun n h => by cases h⟩
  | x :: xs, pre, h => by
    rw [fstBad_cons] at h
    split at h
    · cases h
    · rename_i c
      obtain ⟨ns, e, hn⟩ := ints_of_wh h
      cases x <;> simp only [isWh, Bool.not_false, not_true_eq_false, Bool.and_true, Bool.not_eq_true', decide_eq_false_iff_not, Bool.not_eq_eq_eq_not] at c
      case int i =>
        refine ⟨i :: ns, by rw [List.map_cons, e], fun n hm => ?_⟩
        rcases List.mem_cons.mp hm with z | hm
        · rw [z]; simpa using c
        · exact hn n hm
end Dl

namespace Rk
open Dl Zs
theorem up_gap {cs : List Int} (h : Up cs) : ∀ (d p : Nat) (a b : Int), cs[p]? = some a → cs[p + d]? = some b → a + d ≤ b
  | 0, p, a, b, h1, h2 => by
    rw [Nat.add_zero, h1] at h2
    cases h2
    omega
  | d + 1, p, a, b, h1, h2 => by
    have l2 := (List.getElem?_eq_some_iff.mp h2).1
    have hc : p + d < cs.length := by omega
    have ih := up_gap h d p a cs[p + d] h1 (List.getElem?_eq_getElem hc)
    have lt := List.pairwise_iff_getElem.mp h (p + d) (p + (d + 1)) hc l2 (by omega)
    obtain ⟨_, e⟩ := List.getElem?_eq_some_iff.mp h2
    rw [e] at lt
    omega
theorem full_mem {rs : List Int} (pos : ∀ n ∈ rs, 0 ≤ n) (full : ((canon rs).length : Int) = topI rs + 1) {v : Int} (h0 : 0 ≤ v) (h1 : v ≤ topI rs) : v ∈ rs := by
  have up := up_canon rs
  obtain ⟨n, hn⟩ : ∃ n : Nat, v = n := ⟨v.toNat, by omega⟩
  subst hn
  have hlt : n < (canon rs).length := by omega
  have e1 : (canon rs)[n]? = some (canon rs)[n] := List.getElem?_eq_getElem hlt
  have hz : 0 < (canon rs).length := by omega
  have e0 : (canon rs)[0]? = some (canon rs)[0] := List.getElem?_eq_getElem hz
  have lo := up_gap up n 0 _ _ e0 (by rw [Nat.zero_add]; exact e1)
  have m0 := pos _ (mem_canon.mp (List.getElem_mem hz))
  have hl : (canon rs).length - 1 < (canon rs).length := by omega
  have el : (canon rs)[(canon rs).length - 1]? = some (canon rs)[(canon rs).length - 1] := List.getElem?_eq_getElem hl
  have hi := up_gap up ((canon rs).length - 1 - n) n _ _ e1 (by rw [show n + ((canon rs).length - 1 - n) = (canon rs).length - 1 by omega]; exact el)
  have mt := topI_ge (mem_canon.mp (List.getElem_mem hl))
  have : (canon rs)[n] = (n : Int) := by omega
  rw [← this]
  exact mem_canon.mp (List.getElem_mem hlt)
structure Rks {α : Type} (lt : α → α → Prop) (ks : List α) (rs : List Int) : Prop where
  len : rs.length = ks.length
  ord : ∀ (i j : Nat) (a b : α) (r s : Int), ks[i]? = some a → ks[j]? = some b → rs[i]? = some r → rs[j]? = some s → (lt a b ↔ r < s)
  pos : ∀ n ∈ rs, 0 ≤ n
  full : ((canon rs).length : Int) = topI rs + 1
section
variable {α β : Type} {lt : α → α → Prop} {lt' : β → β → Prop} {ks : List α} {ks' : List β} {rs rs' : List Int}
theorem rks_eq (h : Rks lt ks rs) (h' : Rks lt' ks' rs') (l : ks.length = ks'.length)
    (same : ∀ (i j : Nat) (a b : α) (a' b' : β), ks[i]? = some a → ks[j]? = some b → ks'[i]? = some a' → ks'[j]? = some b' → (lt a b ↔ lt' a' b')) : rs = rs' := by
  have at_ : ∀ {i : Nat} {r : Int}, rs[i]? = some r → ∃ a a' r', ks[i]? = some a ∧ ks'[i]? = some a' ∧ rs'[i]? = some r' := fun {i r} e => by
    have l1 := (List.getElem?_eq_some_iff.mp e).1
    have := h.len
    have := h'.len
    exact ⟨_, _, _, List.getElem?_eq_getElem (by omega), List.getElem?_eq_getElem (by omega), List.getElem?_eq_getElem (by omega)⟩
  have at_' : ∀ {i : Nat} {r : Int}, rs'[i]? = some r → ∃ r', rs[i]? = some r' := fun {i r} e => by
    have l1 := (List.getElem?_eq_some_iff.mp e).1
    have := h.len
    have := h'.len
    exact ⟨_, List.getElem?_eq_getElem (by omega)⟩
  have ord : ∀ {i j : Nat} {r s r' s' : Int}, rs[i]? = some r → rs[j]? = some s → rs'[i]? = some r' → rs'[j]? = some s' → (r < s ↔ r' < s') := fun {i j r s r' s'} e1 e2 e3 e4 => by
    obtain ⟨a, a', _, ha, ha', _⟩ := at_ e1
    obtain ⟨b, b', _, hb, hb', _⟩ := at_ e2
    rw [← h.ord i j a b r s ha hb e1 e2, ← h'.ord i j a' b' r' s' ha' hb' e3 e4]
    exact same i j a b a' b' ha hb ha' hb'
  have key : ∀ (v : Nat) (i : Nat), rs[i]? = some (v : Int) → rs'[i]? = some (v : Int) := by
    intro v
    induction v using Nat.strongRecOn with
    | ind v ih =>
      intro i e
      obtain ⟨_, _, r', _, _, e'⟩ := at_ e
      have lo : (v : Int) ≤ r' := by
        by_cases hv : v = 0
        · have := h'.pos r' (List.mem_of_getElem? e')
          omega
        · have mt := topI_ge (List.mem_of_getElem? e)
          have m := full_mem h.pos h.full (v := ((v - 1 : Nat) : Int)) (by omega) (by omega)
          obtain ⟨j, hj⟩ := List.mem_iff_getElem?.mp m
          have hj' := ih (v - 1) (by omega) j hj
          have := (ord hj e hj' e').mp (by omega)
          omega
      by_cases hlt : (v : Int) < r'
      · have mt := topI_ge (List.mem_of_getElem? e')
        have m := full_mem h'.pos h'.full (v := (v : Int)) (by omega) (by omega)
        obtain ⟨k, hk⟩ := List.mem_iff_getElem?.mp m
        obtain ⟨u, hu⟩ := at_' hk
        have lt1 := (ord hu e hk e').mpr hlt
        have u0 := h.pos u (List.mem_of_getElem? hu)
        have hu2 := ih u.toNat (by omega) k (by rw [hu]; congr 1; omega)
        rw [hk] at hu2
        have := Option.some.inj hu2
        omega
      · rw [e']
        congr 1
        omega
  apply List.ext_getElem?
  intro i
  cases e : rs[i]? with
  | none =>
    cases e2 : rs'[i]? with
    | none => rfl
    | some r =>
      obtain ⟨r', h2⟩ := at_' e2
      rw [e] at h2
      cases h2
  | some r =>
    have r0 := h.pos r (List.mem_of_getElem? e)
    have := key r.toNat i (by rw [e]; congr 1; omega)
    rw [this]
    congr 1
    omega
end
section
variable {α : Type} [BEq α] [LawfulBEq α] {lt : α → α → Prop} {ks S : List α}
theorem idx_at {k : α} (h : k ∈ S) : S.findIdx (fun c => c == k) < S.length ∧ S[S.findIdx (fun c => c == k)]? = some k := by
  have hl : S.findIdx (fun c => c == k) < S.length := List.findIdx_lt_length_of_exists ⟨k, h, beq_self_eq_true k⟩
  refine ⟨hl, ?_⟩
  rw [List.getElem?_eq_getElem hl]
  exact congrArg some (eq_of_beq (List.findIdx_getElem (p := fun c => c == k) (w := hl)))
theorem idx_lo {k : α} {j : Nat} (h : j < S.findIdx (fun c => c == k)) : S[j]? ≠ some k := fun e => by
  have := List.not_of_lt_findIdx h
  obtain ⟨hj, e2⟩ := List.getElem?_eq_some_iff.mp e
  rw [e2] at this
  simp at this
theorem rks_of (asc : S.Pairwise lt) (irr : ∀ a, ¬ lt a a) (tr : ∀ {a b c}, lt a b → lt b c → lt a c) (mem : ∀ x, x ∈ S ↔ x ∈ ks) : Rks lt ks (ks.map fun k => ((S.findIdx fun c => c == k : Nat) : Int)) := by
  have pw := List.pairwise_iff_getElem.mp asc
  have nd : ∀ {p q : Nat} {a : α}, S[p]? = some a → S[q]? = some a → p = q := fun {p q a} e1 e2 => by
    obtain ⟨l1, f1⟩ := List.getElem?_eq_some_iff.mp e1
    obtain ⟨l2, f2⟩ := List.getElem?_eq_some_iff.mp e2
    rcases Nat.lt_trichotomy p q with h | h | h
    · have := pw p q l1 l2 h
      rw [f1, f2] at this
      exact absurd this (irr a)
    · exact h
    · have := pw q p l2 l1 h
      rw [f1, f2] at this
      exact absurd this (irr a)
  have ec : canon (ks.map fun k => ((S.findIdx fun c => c == k : Nat) : Int)) = (List.range S.length).map fun i => ((i : Nat) : Int) := by
    refine up_eq (up_canon _) ?_ fun v => ?_
    · refine List.Pairwise.map _ (fun a b h => ?_) List.pairwise_lt_range
      omega
    · rw [mem_canon, List.mem_map, List.mem_map]
      constructor
      · rintro ⟨k, hk, rfl⟩
        exact ⟨_, List.mem_range.mpr (idx_at ((mem k).mpr hk)).1, rfl⟩
      · rintro ⟨i, hi, rfl⟩
        have hi := List.mem_range.mp hi
        have mi : S[i] ∈ S := List.getElem_mem hi
        refine ⟨S[i], (mem _).mp mi, ?_⟩
        have := nd (idx_at mi).2 (List.getElem?_eq_getElem hi)
        omega
  refine ⟨List.length_map _, fun i j a b r s ha hb hr hs => ?_, fun n hn => ?_, ?_⟩
  · rw [List.getElem?_map, ha] at hr
    rw [List.getElem?_map, hb] at hs
    cases hr
    cases hs
    dsimp only
    obtain ⟨la, fa⟩ := idx_at ((mem a).mpr (List.mem_of_getElem? ha))
    obtain ⟨lb, fb⟩ := idx_at ((mem b).mpr (List.mem_of_getElem? hb))
    obtain ⟨_, ea⟩ := List.getElem?_eq_some_iff.mp fa
    obtain ⟨_, eb⟩ := List.getElem?_eq_some_iff.mp fb
    constructor
    · intro h
      rcases Nat.lt_trichotomy (S.findIdx fun c => c == a) (S.findIdx fun c => c == b) with q | q | q
      · omega
      · rw [q, fb] at fa
        cases fa
        exact absurd h (irr a)
      · have := pw _ _ lb la q
        rw [ea, eb] at this
        exact absurd (tr h this) (irr a)
    · intro h
      have := pw _ _ la lb (by omega)
      rw [ea, eb] at this
      exact this
  · obtain ⟨k, _, rfl⟩ := List.mem_map.mp hn
    omega
  · rw [ec, List.length_map, List.length_range]
    by_cases hz : S.length = 0
    · have e0 : S = [] := List.length_eq_zero_iff.mp hz
      have : ks = [] := List.eq_nil_iff_forall_not_mem.mpr fun x hx => by
        have := (mem x).mpr hx
        rw [e0] at this
        cases this
      rw [this, hz]
      rfl
    · have hl : S.length - 1 < S.length := by omega
      have top : ((S.length - 1 : Nat) : Int) ∈ ks.map fun k => ((S.findIdx fun c => c == k : Nat) : Int) := by
        rw [← mem_canon, ec]
        exact List.mem_map.mpr ⟨_, List.mem_range.mpr hl, rfl⟩
      have ne : (ks.map fun k => ((S.findIdx fun c => c == k : Nat) : Int)) ≠ [] := fun e => by
        rw [e] at top
        cases top
      have t1 := topI_ge top
      have t2 := topI_mem ne fun n hn => by
        obtain ⟨k, _, rfl⟩ := List.mem_map.mp hn
        omega
      obtain ⟨k, hk, e⟩ := List.mem_map.mp t2
      have := (idx_at ((mem k).mpr hk)).1
      omega
end
structure StdR (rs : List Int) : Prop where
  pos : ∀ n ∈ rs, 0 ≤ n
  full : ((canon rs).length : Int) = topI rs + 1
theorem Rks.std {α : Type} {lt : α → α → Prop} {ks : List α} {rs : List Int} (h : Rks lt ks rs) : StdR rs := ⟨h.pos, h.full⟩
theorem putI_len {x : Int} : ∀ {cs : List Int}, Up cs → (putI x cs).length = if x ∈ cs then cs.length else cs.length + 1
  | [], _ => by simp [putI]
  | y :: ys, h => by
    obtain ⟨h1, h2⟩ := List.pairwise_cons.mp h
    unfold putI
    by_cases c1 : x < y
    · rw [if_pos c1, if_neg]
      · rfl
      · intro m
        rcases List.mem_cons.mp m with e | m
        · omega
        · have := h1 x m
          omega
    · rw [if_neg c1]
      by_cases c2 : x = y
      · rw [if_pos c2, if_pos (by rw [c2]; exact List.mem_cons_self)]
      · rw [if_neg c2, List.length_cons, putI_len h2]
        by_cases c3 : x ∈ ys
        · rw [if_pos c3, if_pos (List.mem_cons_of_mem _ c3)]
          rfl
        · rw [if_neg c3, if_neg (fun m => (List.mem_cons.mp m).elim c2 c3)]
          rfl
theorem canon_snoc (p : List Int) (x : Int) : canon (p ++ [x]) = putI x (canon p) :=
  up_eq (up_canon _) (up_putI (up_canon p)) fun k => by
    rw [mem_canon, mem_putI, mem_canon, List.mem_append, List.mem_singleton]
    exact Or.comm
theorem topI_snoc : ∀ (p : List Int) (x : Int), topI (p ++ [x]) = if topI p < x then x else topI p
  | [], x => rfl
  | y :: p, x => by
    show (if topI (p ++ [x]) < y then y else topI (p ++ [x])) = _
    rw [topI_snoc p x]
    show _ = if (if topI p < y then y else topI p) < x then x else (if topI p < y then y else topI p)
    by_cases a : topI p < x <;> by_cases b : topI p < y <;> by_cases c : y < x <;> by_cases d : x < y <;> simp only [a, b, c, d, if_true, if_false] <;> omega
def gap (p : List Int) : Int := topI p + 1 - (canon p).length
theorem gap_snoc (p : List Int) (x : Int) : gap p - 1 ≤ gap (p ++ [x]) := by
  unfold gap
  rw [canon_snoc, topI_snoc, putI_len (up_canon p)]
  split <;> split <;> omega
theorem gap_app (p : List Int) : ∀ q : List Int, gap p - q.length ≤ gap (p ++ q) := by
  intro q
  induction q generalizing p with
  | nil => rw [List.append_nil]; simp
  | cons x q ih =>
    have h1 := gap_snoc p x
    have h2 := ih (p ++ [x])
    rw [List.append_assoc, List.singleton_append] at h2
    rw [List.length_cons]
    omega
theorem canon_le {cs : List Int} {lo hi : Int} (up : Up cs) (h : ∀ c ∈ cs, lo ≤ c ∧ c ≤ hi) (hh : lo ≤ hi + 1) : (cs.length : Int) ≤ hi + 1 - lo := by
  by_cases ne : cs.length = 0
  · omega
  · have e0 : cs[0]? = some cs[0] := List.getElem?_eq_getElem (by omega)
    have el : cs[cs.length - 1]? = some cs[cs.length - 1] := List.getElem?_eq_getElem (by omega)
    have := up_gap up (cs.length - 1) 0 _ _ e0 (by rw [Nat.zero_add]; exact el)
    have a := h _ (List.getElem_mem (show 0 < cs.length by omega))
    have b := h _ (List.getElem_mem (show cs.length - 1 < cs.length by omega))
    omega
theorem gap_pos {p : List Int} (pos : ∀ n ∈ p, 0 ≤ n) : 0 ≤ gap p := by
  have := canon_le (lo := 0) (hi := topI p) (up_canon p) (fun c hc => ⟨pos c (mem_canon.mp hc), topI_ge (mem_canon.mp hc)⟩) (by have := topI_lo p; omega)
  unfold gap
  omega
theorem std_gap {p : List Int} (pos : ∀ n ∈ p, 0 ≤ n) : StdR p ↔ gap p ≤ 0 := by
  have := gap_pos pos
  unfold gap at *
  exact ⟨fun h => by have := h.full; omega, fun h => ⟨pos, by omega⟩⟩
theorem std_lt {p : List Int} (h : StdR p) {n : Int} (hn : n ∈ p) : n < p.length := by
  have := topI_ge hn
  have := h.full
  have := canon_len p
  omega
theorem std_top {p : List Int} (h : StdR p) : topI p < p.length := by
  have := h.full
  have := canon_len p
  omega
end Rk

namespace Zs
open PySem PySem.Spec PyProof.Rows L2 Dl
def litI : List Expr → Option (List Int)
  | [] => some []
  | .Constant (.int i) _ _ :: es => (litI es).map (i :: ·)
  | _ => none
def dInts (ns : List Int) : TAD := fun _ Q => Q (ns.map D.int)
section
variable {X : Cx} {g : Gx}
theorem da_lits : ∀ {es : List Expr} {ns : List Int}, litI es = some ns → PAD X g es (dInts ns)
  | [], ns, h => by
    cases h
    exact da_nil
  | e :: es, ns, h => by
    cases e <;> first | (simp [litI] at h; done) | skip
    case Constant c k p =>
      cases c <;> first | (simp [litI] at h; done) | skip
      case int i =>
        simp only [litI, Option.map_eq_some_iff] at h
        obtain ⟨ms, h1, rfl⟩ := h
        exact da_cons d_int (da_lits h1)
end
end Zs

namespace Nd
open PySem PySem.Spec PyProof.Rows L2 Dl Ns
mutual
/-- a key without text hashes alike in every world -/
theorem hash_w : ∀ x : D, kok x = true → ∀ w w' : World, (keyD x).hash w = (keyD x).hash w'
  | .non, _, _, _ => rfl
  | .int i, _, _, _ => rfl
  | .tup xs, h, w, w' => by
    simp only [keyD, NestedKey.hash]
    rw [hashes_w xs (by simpa only [kok] using h) w w']
  | .bl _, h, _, _ => by simp [kok] at h
  | .str _, h, _, _ => by simp [kok] at h
  | .lst _, h, _, _ => by simp [kok] at h
  | .ref _, h, _, _ => by simp [kok] at h
  | .ty _, h, _, _ => by simp [kok] at h
  | .obj _ _ _, h, _, _ => by simp [kok] at h
theorem hashes_w : ∀ xs : List D, kokA xs = true → ∀ w w' : World, NestedKey.hashes w (keysD xs) = NestedKey.hashes w' (keysD xs)
  | [], _, _, _ => rfl
  | x :: xs, h, w, w' => by
    simp only [kokA, Bool.and_eq_true] at h
    simp only [keysD, NestedKey.hashes]
    rw [hash_w x h.1 w w', hashes_w xs h.2 w w']
end
abbrev Ent := NestedKey × Addr × V
abbrev Same (p : Ent) (x : NestedKey × Addr × Value) : Prop := p.1 = x.1 ∧ p.2.1 = x.2.1 ∧ RelV p.2.2 x.2.2
section
variable {P : Program} {w : World} {h : Heap} {a : Addr}
theorem ents_of : ∀ {L : List Ent} {es : List DictEntry}, Paired (fun (p : Ent) (e : DictEntry) => (∀ w, e.hash = p.1.hash w) ∧ e.key = .ref p.2.1 ∧ RelV p.2.2 e.val) L es →
    ∃ xs, es = xs.map (entryOfKey (nestedKind P w)) ∧ Paired Same L xs
  | _, _, .nil => ⟨[], rfl, .nil⟩
  | _, _, .cons (a := p) (b := e) hd tl => by
    obtain ⟨xs, e1, pr⟩ := ents_of tl
    refine ⟨(p.1, p.2.1, e.val) :: xs, ?_, .cons ⟨rfl, rfl, hd.2.2⟩ pr⟩
    rw [List.map_cons, ← e1]
    obtain ⟨hh, kk, vv⟩ := e
    obtain ⟨h1, h2, h3⟩ := hd
    dsimp only at h1 h2 h3
    subst h2
    rw [h1 w]
    rfl
theorem same_keys : ∀ {L : List Ent} {xs : List (NestedKey × Addr × Value)}, Paired Same L xs → xs.map (·.1) = L.map (·.1)
  | _, _, .nil => rfl
  | _, _, .cons hd tl => by rw [List.map_cons, List.map_cons, hd.1, same_keys tl]
theorem same_mem : ∀ {L : List Ent} {xs : List (NestedKey × Addr × Value)}, Paired Same L xs → ∀ x ∈ xs, ∃ p ∈ L, Same p x
  | _, _, .nil, x, hx => by cases hx
  | _, _, .cons (a := p) hd tl, x, hx => by
    rcases List.mem_cons.mp hx with e | hx
    · rw [e]; exact ⟨p, List.mem_cons_self, hd⟩
    · obtain ⟨q, hq, s⟩ := same_mem tl x hx
      exact ⟨q, List.mem_cons_of_mem _ hq, s⟩
theorem full {L : List Ent} (R : NRaw h a L) (m : ∀ p ∈ L, NestedIs h p.1 (.ref p.2.1) ∧ p.1.depth ≤ 8) : ∃ xs, h.DictOfH (nestedKind P w) a xs ∧ Paired Same L xs := by
  obtain ⟨_, _, nd, o, es, ep, h1, h2, h3, pr⟩ := R
  obtain ⟨xs, e, sm⟩ := ents_of (P := P) (w := w) pr
  refine ⟨xs, ⟨o, es, ep, h1, h2, h3, e, fun x hx => ?_, by rw [same_keys sm]; exact nd⟩, sm⟩
  obtain ⟨p, hp, e1, e2, _⟩ := same_mem sm x hx
  have := m p hp
  rw [e1, e2] at this
  exact this
theorem bare_of {L : List Ent} {xs : List (NestedKey × Addr × Value)} (hd : (a == sysModules) = false) (few : L.length ≤ sizeLine) (x : h.DictOfH (nestedKind P w) a xs) (sm : Paired Same L xs) (hw : ∀ p ∈ L, ∀ w w' : World, p.1.hash w = p.1.hash w') : NRaw h a L := by
  obtain ⟨o, es, ep, h1, h2, h3, e, ii, nd⟩ := x
  refine ⟨hd, few, by rw [← same_keys sm]; exact nd, o, es, ep, h1, h2, h3, ?_⟩
  rw [e]
  clear e h1 h2 h3 ii nd few
  induction sm with
  | nil => exact .nil
  | @cons p q ps qs hh t ih =>
    rw [List.map_cons]
    obtain ⟨e1, e2, r⟩ := hh
    refine .cons ⟨fun w' => ?_, by rw [e2]; rfl, r⟩ (ih fun p hp => hw p (List.mem_cons_of_mem _ hp))
    show q.1.hash w = p.1.hash w'
    rw [← e1]
    exact hw p List.mem_cons_self w w'
theorem ndo_ok {L : List Ent} {H : Hp} (R : NRaw h a L) : ObjOk P w H h a (NDO a L) := by
  obtain ⟨_, _, _, o, _, _, ho, _⟩ := id R
  refine ⟨R, ⟨o, ho⟩, fun h1 h2 p k => ?_⟩
  have p : NRaw h1 a L := p
  obtain ⟨x1, x2, x3, o', es', ep', ho', r⟩ := p
  exact ⟨x1, x2, x3, o', es', ep', k o' ho', r⟩
theorem ndo_empty {H : Hp} (h : Heap) (hb : sysModules < h.objs.size) : ObjOk P w H (h.push { cls := .type "dict", data := .dict #[] }) h.objs.size (NDO h.objs.size []) :=
  ndo_ok ⟨beq_eq_false_iff_ne.mpr (Ne.symm (Nat.ne_of_lt hb)), Nat.zero_le _, List.nodup_nil, _, #[], 0, Heap.get?_push_size _ rfl, ⟨rfl, rfl, rfl⟩, rfl, .nil⟩
theorem at_none {L : List Ent} {xs : List (NestedKey × Addr × Value)} {k : NestedKey} (sm : Paired Same L xs) (h : k ∉ L.map (·.1)) : atKey xs k = none := by
  rw [← same_keys sm] at h
  unfold atKey
  rw [List.find?_eq_none.mpr fun x hx e => h ?_]
  · rfl
  · rw [← of_decide_eq_true e]
    exact List.mem_map_of_mem hx
theorem at_some : ∀ {L : List Ent} {xs : List (NestedKey × Addr × Value)} {k : NestedKey} {i : Nat} {b : Addr} {v : V}, Paired Same L xs → (L.map (·.1)).Nodup → L[i]? = some (k, b, v) → ∃ u, atKey xs k = some (b, u) ∧ RelV v u
  | _, _, _, _, _, _, .nil, _, e => by simp at e
  | _, _, k, 0, b, v, .cons (a := p) (b := x) hd tl, _, e => by
    rw [List.getElem?_cons_zero] at e
    cases e
    obtain ⟨e1, e2, r⟩ := hd
    dsimp only at e1 e2 r
    refine ⟨x.2.2, ?_, r⟩
    unfold atKey
    rw [List.find?_cons_of_pos (by simp [e1])]
    rw [e2]
    rfl
  | _, _, k, i + 1, b, v, .cons (a := p) (b := x) (l₁ := ps) hd tl, nd, e => by
    rw [List.getElem?_cons_succ] at e
    rw [List.map_cons, List.nodup_cons] at nd
    obtain ⟨u, e2, r⟩ := at_some tl nd.2 e
    refine ⟨u, ?_, r⟩
    unfold atKey at e2 ⊢
    rw [List.find?_cons_of_neg]
    · exact e2
    · intro z
      have z := of_decide_eq_true z
      refine nd.1 ?_
      rw [hd.1, z]
      exact List.mem_map.mpr ⟨_, List.mem_of_getElem? e, rfl⟩
end
abbrev kn (m : Addr × D × V) : Ent := (keyD m.2.1, m.1, m.2.2)
abbrev MemA (K : PySem.W.Frag) (Av : Addr → Prop) (H : Hp) (M : List (Addr × D × V)) : Prop := ∀ x ∈ M, Mem K Av H (x.1, x.2.1)
section
variable {X : Cx} {pins : List (Addr × Obj)} {σ : L2.St} {H : Hp} {s : Shared} {Av : Addr → Prop} {S : Addr} {m : Addr × D} {M : List (Addr × D × V)} {A : Around} {E : Value → Shared → Prop}
theorem Mem.key (x : Mem X.K Av H m) (I : Inv X pins σ H s) : NestedIs s.heap (keyD m.2) (.ref m.1) ∧ (keyD m.2).depth ≤ 8 :=
  ⟨den_key I _ _ _ x.ok x.den rfl, by rw [(keyD_dry _ x.ok).2]; exact x.low⟩
theorem keys_at (I : Inv X pins σ H s) (hM : MemA X.K Av H M) : ∀ p ∈ M.map kn, NestedIs s.heap p.1 (.ref p.2.1) ∧ p.1.depth ≤ 8 := fun p hp => by
  obtain ⟨x, hx, rfl⟩ := List.mem_map.mp hp
  exact Mem.key (hM x hx) I
theorem keys_in (hm : Mem X.K Av H m) (hM : MemA X.K Av H M) : keyD m.2 ∈ (M.map kn).map (·.1) ↔ m.2 ∈ M.map (·.2.1) := by
  rw [List.map_map, List.mem_map, List.mem_map]
  constructor
  · rintro ⟨x, hx, e⟩
    exact ⟨x, hx, keyD_inj _ _ (hM x hx).ok hm.ok e⟩
  · rintro ⟨x, hx, e⟩
    exact ⟨x, hx, congrArg keyD e⟩
theorem raw_of (I : Inv X pins σ H s) (hS : H S = some (NDO S (M.map kn))) : NRaw s.heap S (M.map kn) := (show ObjOk X.prog X.w H s.heap S (NDO S (M.map kn)) from I.hok S _ hS).1
theorem nd_put {v : V} {r : Value} {Q : Unit → Shared → Prop} (hu : X.A.units + 8 < cLine) (I : Inv X pins σ H s) (hS : H S = some (NDO S (M.map kn))) (hm : Mem X.K Av H m) (hM : MemA X.K Av H M) (few : M.length < sizeLine) (new : m.2 ∉ M.map (·.2.1)) (rv : RelV v r)
    (h : ∀ s', Inv X pins σ (upd H S (NDO S ((M ++ [(m.1, m.2, v)]).map kn))) s' → Q () s') : wpAny (model X.prog X.w) X.A (dictSet S (.ref m.1) r) Q E s := by
  have R := raw_of I hS
  obtain ⟨xs, dd, sm⟩ := full (P := X.prog) (w := X.w) R (keys_at I hM)
  have lx : xs.length = M.length := by rw [← Paired.length sm, List.length_map]
  have no : atKey xs (keyD m.2) = none := at_none sm fun z => new ((keys_in hm hM).mp z)
  refine wpAny_dictSet_heap (knd := nestedKind X.prog X.w) (hsz := by omega) hu (Mem.key hm I) dd fun h' dd' hs => h _ ?_
  have he : ∃ q, h'.get? S = some q := let ⟨q, _, _, hq, _⟩ := dd'; ⟨q, hq⟩
  have es : storedH xs (keyD m.2) m.1 r = xs ++ [(keyD m.2, m.1, r)] := by
    unfold storedH
    rw [no]
    rfl
  rw [es] at dd'
  refine d_write I (by rw [hS]; exact True.intro) hs he (ndo_ok (bare_of R.1 (by rw [List.length_map, List.length_append, List.length_singleton]; omega) dd' ?_ fun p hp => ?_))
  · rw [List.map_append]
    exact Paired.snoc sm ⟨rfl, rfl, rv⟩
  · obtain ⟨x, hx, rfl⟩ := List.mem_map.mp hp
    rcases List.mem_append.mp hx with hx | hx
    · exact hash_w _ (hM x hx).ok
    · rw [List.mem_singleton.mp hx]
      exact hash_w _ hm.ok
theorem nd_get {i : Nat} {c : Addr} {v : V} {Q : Value → Shared → Prop} (hu : A.units + 9 < cLine) (I : Inv X pins σ H s) (hS : H S = some (NDO S (M.map kn))) (hm : Mem X.K Av H m) (hM : MemA X.K Av H M) (hi : M[i]? = some (c, m.2, v))
    (h : ∀ w' s', Inv X pins σ H s' → RelV v w' → Q w' s') : wpAny (model X.prog X.w) A (getItem (.ref S) (.ref m.1)) Q E s := by
  have R := raw_of I hS
  obtain ⟨xs, dd, sm⟩ := full (P := X.prog) (w := X.w) R (keys_at I hM)
  obtain ⟨u, e, ru⟩ := at_some (k := keyD m.2) (i := i) (b := c) (v := v) sm R.2.2.1 (by rw [List.getElem?_map, hi]; rfl)
  exact wpAny_getItem_heap (knd := nestedKind X.prog X.w) (show A.in1.units + 8 < cLine from by simp; omega) (Mem.key hm I) dd e (h _ _ (I.tok _) ru)
end
end Nd

namespace Nd
open PySem PySem.Spec PyProof.Rows L2 Dl Ns
structure Puts (X : Cx) (O0 : Addr → HO) (Pu : Addr → V → V → Hp → (Hp → Prop) → Prop) : Prop where
  new : ∀ (H : Hp) (h : Heap), sysModules < h.objs.size → ObjOk X.prog X.w H (h.push { cls := .type "dict", data := .dict #[] }) h.objs.size (O0 h.objs.size)
  put : ∀ (s0 : Shared) (H0 : Hp) (sc : Scope) (ce : Env) (fp : List Addr) (pins : List (Addr × Obj)) (σ : L2.St) (H : Hp) (s : Shared) (D : Addr) (y z : V) (u r : Value) (Nx : Hp → Prop) (E : Value → Shared → Prop) (Q : Unit → Shared → Prop),
    Inv (X.blk s0 H0 sc ce fp) pins σ H s → RelV y u → RelV z r → Pu D y z H Nx → (∀ s' H', Inv (X.blk s0 H0 sc ce fp) pins σ H' s' → Nx H' → Q () s') → wpAny (model X.prog X.w) X.A (dictSet D u r) Q E s
def tDa (O0 : Addr → HO) (Pu : Addr → V → V → Hp → (Hp → Prop) → Prop) (wi : TI) (g : TG) (tt : TT) (tk tv : TE) (vs : List Nat) : TE := fun σ H Q => wi σ H fun J H1 => ∀ D, H1 D = none →
  ∃ W : Nat → Nat → Hp → Prop, (∃ m, W 0 m (upd H1 D (O0 D))) ∧ ∀ i m H2, W i m H2 → (J.stop i H2 ∧ Q (.ref D) H2) ∨ (J.go i H2 ∧ ∃ Nx : Hp → Prop, (∀ H', Nx H' → ∃ m', m' < m ∧ W (i + 1) m' H') ∧
    ∀ x H', J.yld i H2 x H' → g x (wipe σ vs) H' fun σ3 H3 => wipe σ3 vs = wipe σ vs ∧ tt σ3 H3 fun b H4 => if b = true then tk σ3 H4 fun y H5 => tv σ3 H5 fun z H6 => Pu D y z H6 Nx else Nx H4)
section
variable {X : Cx} {O0 : Addr → HO} {Pu : Addr → V → V → Hp → (Hp → Prop) → Prop}
theorem da_run {pins : List (Addr × Obj)} {s : Shared} {σ : L2.St} {H : Hp} {Q : VK} {kx vx tg iter : Expr} {ifs : List Expr} {scope : Scope} {own : List (PySem.Str × Nat)} {pos at? : Pos} {wi : TI} {g : TG} {tt : TT} {tk tv : TE} {Qf : Value → Shared → Prop}
    (pu : Puts X O0 Pu) (calm : X.calm = true) (ndp : X.N.Nodup) (I : Inv X pins σ H s) (walk : PI X tg iter wi) (ok : BlkOk X.N X.env.scope scope own)
    (tgt : ∀ (s : Shared) (H : Hp) (C : Addr) (cl : List (PySem.Str × Addr)) (fp : List Addr), PG (X.blk s H scope (compEnvC scope cl C X.env) fp) tg g) (tst : ∀ (s : Shared) (H : Hp) (C : Addr) (cl : List (PySem.Str × Addr)) (fp : List Addr), PTs (X.blk s H scope (compEnvC scope cl C X.env) fp) ifs tt)
    (key : ∀ (s : Shared) (H : Hp) (C : Addr) (cl : List (PySem.Str × Addr)) (fp : List Addr), PE (X.blk s H scope (compEnvC scope cl C X.env) fp) kx tk)
    (val : ∀ (s : Shared) (H : Hp) (C : Addr) (cl : List (PySem.Str × Addr)) (fp : List Addr), PE (X.blk s H scope (compEnvC scope cl C X.env) fp) vx tv) (plain : ∀ x, foldedSetIterable iter X.env x = pure x)
    (h : tDa O0 Pu wi g tt tk tv (own.map (·.2)) σ H Q) (fin : ∀ D C s' m H', Inv X pins σ H' s' → Q (.ref D) H' → s'.heap.Ns C m → FpOk X pins H' C → compPost (model X.prog X.w) X.A X.xe none Qf (.ref D) C (.ok .next) s') :
    wpAny (model X.prog X.w) X.A (comprehension (.DictComp kx vx [⟨tg, iter, ifs, 0⟩] scope pos) scope X.env at? newDict false (eval iter X.env) none) Qf X.xe s := by
  have cells : ∀ y ∈ scope.names, y.2 = .free → ∃ c, X.env.cells.lookup y.1 = some c := fun y hy e => I.ok.has _ ((ok.free y hy e).imp id id)
  refine wpAny_comprehension_free (use := none) rfl plain (closure_ok cells) ok.kind (fun y hy e => (ok.uniq y hy).trans (congrArg some e)) (thn (walk.run pins s σ H _ I h) fun xv s1 hx => thn hx fun itv s2 h2 => ?_)
  obtain ⟨it, fp, tn, J, H2, e, I2, T, st2, f2, q⟩ := h2
  subst e
  refine wpAny_newObj_type (newEnv_comp ?_)
  generalize hD : s2.heap.objs.size = D
  have new2 : s2.heap.objs.size ≤ D := Nat.le_of_eq hD
  obtain ⟨W, ⟨m0, w0⟩, turn⟩ := q D (I2.hok.fresh new2)
  generalize hs3 : ({ s2 with heap := s2.heap.push { cls := .type "dict", data := .dict #[] } } : Shared) = s3
  have e3 : s3.heap = s2.heap.push { cls := .type "dict", data := .dict #[] } := by rw [← hs3]
  generalize hH3 : upd H2 D (O0 D) = H3 at w0
  have I3 : Inv X pins σ H3 s3 := by
    rw [← hs3, ← hH3]
    refine I2.laid (t' := s2.toks) (fun b o e => Heap.get?_push_of_some _ e) new2 ?_
    rw [← hD]
    exact pu.new _ _ I2.big
  have below : ∀ b ∈ fp, b < s2.heap.objs.size := fun b hb => let ⟨_, e, _⟩ := T.obj _ _ st2 b hb; Heap.lt_size e
  have none3 : ∀ b ∈ fp, H3 b = none := fun b hb => by
    have ne : b ≠ D := Nat.ne_of_lt (Nat.lt_of_lt_of_le (below b hb) new2)
    rw [← hH3, upd_ne ne]
    exact (f2 b hb).1
  have f3 : ∀ b ∈ fp, FpOk X pins H3 b ∧ b < s3.heap.objs.size := fun b hb => ⟨⟨none3 b hb, (f2 b hb).2⟩, by
    rw [e3, Heap.size_push]
    exact Nat.lt_succ_of_lt (below b hb)⟩
  have st3 : tn 0 s3.heap := T.keep _ _ _ st2 fun b _ o e => by rw [e3]; exact Heap.get?_push_of_some _ e
  have I4 := block_start I3 ok ndp f3
  have pg := tgt s3 H3 s3.heap.objs.size (cellsFrom (s3.heap.objs.size + 1) scope.names (cloFrom X.env.cells scope.names [])) fp
  have pt := tst s3 H3 s3.heap.objs.size (cellsFrom (s3.heap.objs.size + 1) scope.names (cloFrom X.env.cells scope.names [])) fp
  have pk := key s3 H3 s3.heap.objs.size (cellsFrom (s3.heap.objs.size + 1) scope.names (cloFrom X.env.cells scope.names [])) fp
  have pv := val s3 H3 s3.heap.objs.size (cellsFrom (s3.heap.objs.size + 1) scope.names (cloFrom X.env.cells scope.names [])) fp
  show codeAny _ _ (.compStart _ 0 (.ref it) (.ref D) (compEnvC scope (cellsFrom (s3.heap.objs.size + 1) scope.names (cloFrom X.env.cells scope.names [])) s3.heap.objs.size X.env)) (compPost (model X.prog X.w) X.A X.xe none Qf (.ref D) s3.heap.objs.size) { s3 with heap := pushCells (s3.heap.push { cls := .type "dict", data := .dict #[] }) scope.names }
  have loc : (compEnvC scope (cellsFrom (s3.heap.objs.size + 1) scope.names (cloFrom X.env.cells scope.names [])) s3.heap.objs.size X.env).locals = s3.heap.objs.size := rfl
  generalize compEnvC scope (cellsFrom (s3.heap.objs.size + 1) scope.names (cloFrom X.env.cells scope.names [])) s3.heap.objs.size X.env = ce at I4 pg pt pk pv loc ⊢
  generalize hs4 : ({ s3 with heap := pushCells (s3.heap.push { cls := .type "dict", data := .dict #[] }) scope.names } : Shared) = s4 at I4 ⊢
  have st4 : tn 0 s4.heap := T.keep _ _ _ st3 fun b _ o e => by rw [← hs4]; exact pushCells_keeps _ _ _ _ (Heap.get?_push_of_some _ e)
  have feet : ∀ {σ' : L2.St} {H' : Hp} {s' : Shared}, Inv (X.blk s3 H3 scope ce fp) [] σ' H' s' → (∀ b ∈ fp, H' b = none) → ∀ b ∈ fp, FpOk (X.blk s3 H3 scope ce fp) [] H' b := fun {σ' H' s'} J' hn b hb =>
    ⟨hn b hb, (J'.ok.exf b hb).1, J'.ok.exfs b hb, .inl hb, fun x c e => (J'.ok.exf b hb).2 x c e, fun p hp => by cases hp⟩
  have loop : codeAny (model X.prog X.w) X.A (.compLoop (.DictComp kx vx [⟨tg, iter, ifs, 0⟩] scope pos) 0 (.ref it) (.ref D) ce) (compPost (model X.prog X.w) X.A X.xe none Qf (.ref D) s3.heap.objs.size) s4 := by
    refine compLoop_anyD (fun n s' => ∃ i H', Inv (X.blk s3 H3 scope ce fp) [] (wipe σ (own.map (·.2))) H' s' ∧ tn i s'.heap ∧ (∀ b ∈ fp, H' b = none) ∧ W i n H') ?_ m0 ⟨0, H3, I4, st4, none3, w0⟩
    rintro n s5 ⟨i, H5, I5, st5, n5, w5⟩
    rcases turn i n H5 w5 with ⟨stop, qq⟩ | ⟨go, Nx, next, step⟩
    · refine thnF (T.done (X.blk s3 H3 scope ce fp) rfl rfl rfl calm i [] s5 _ H5 (fun _ _ => False) I5 (feet I5 n5) st5 stop) fun r s6 ⟨hr, I6⟩ => ?_
      subst hr
      have back : Inv X pins σ H5 s6 := I3.call' (ch := fp) I6.os I6.base I6.hok I6.bare fun b hb => ⟨(f3 b hb).1.2.2.2.1, (f3 b hb).1.2.1, (f3 b hb).1.2.2.2.2.1, (f3 b hb).1.2.2.2.2.2⟩
      have gone : H5 s3.heap.objs.size = none := by rw [← loc]; exact I6.free
      obtain ⟨m, ns, _⟩ := I6.loc
      have ns' : s6.heap.Ns ce.locals m := ns
      exact fin D s3.heap.objs.size s6 m H5 back qq (loc ▸ ns') (I3.fpOk (Nat.le_refl _) gone)
    · refine thnF (T.item (X.blk s3 H3 scope ce fp) rfl rfl rfl calm i [] s5 _ H5 (fun _ _ => False) I5 (feet I5 n5) st5 go) fun r s6 ⟨u, hr, h6⟩ => ?_
      subst hr
      refine thnF h6 fun _ s7 ⟨x, H7, I7, r7, y7, st7, n7⟩ => ?_
      refine thnF (pg.run _ s7 _ H7 x u _ (I7.pinned (feet I7 n7) (T.obj _ _ st7)) r7 (step x H7 y7)) fun _ s8 ⟨σ8, H8, I8, same, q8⟩ => ?_
      refine thnF (pt.run _ s8 σ8 H8 _ I8 q8) fun b s9 ⟨H9, I9, q9⟩ => ?_
      have round : ∀ {s' : Shared} {H' : Hp}, Inv (X.blk s3 H3 scope ce fp) ([] ++ pinsAt fp s7.heap) σ8 H' s' → Nx H' → ∃ m, m < n ∧ ∃ i H', Inv (X.blk s3 H3 scope ce fp) [] (wipe σ (own.map (·.2))) H' s' ∧ tn i s'.heap ∧ (∀ b ∈ fp, H' b = none) ∧ W i m H' := fun {s' H'} J' nx => by
        obtain ⟨m', lt, w'⟩ := next H' nx
        have pinned : ∀ b ∈ fp, ∀ o, s7.heap.get? b = some o → s'.heap.get? b = some o ∧ H' b = none := fun b hb o e =>
          have z := J'.pin (b, o) (List.mem_append_right _ (List.mem_append_right _ (mem_pinsAt hb e)))
          ⟨z.1, z.2.1⟩
        refine ⟨m', lt, i + 1, H', (J'.unpinned (pins := [])).weak (by rw [← same, wipe_length]) (fun j v e => ?_), T.keep _ _ _ st7 fun b hb o e => (pinned b hb o e).1, fun b hb => ?_, w'⟩
        · rw [← same] at e
          exact (wipe_some e).1
        · obtain ⟨o, e, _⟩ := T.obj _ _ st7 b hb
          exact (pinned b hb o e).2
      cases b with
      | false => exact round I9 (by simpa using q9)
      | true =>
        simp only [if_true] at q9 ⊢
        refine thnF (pk.run _ s9 σ8 H9 _ I9 q9) fun z s10 ⟨yv, H10, I10, r10, q10⟩ => thnF (pv.run _ s10 σ8 H10 _ I10 q10) fun z2 s11 ⟨zv, H11, I11, r11, q11⟩ => ?_
        exact pu.put _ _ _ _ _ _ _ _ _ _ _ _ _ _ _ _ _ I11 r10 r11 q11 fun s12 H12 I12 nx => round I12 nx
  exact codeAny_compStart_dict loop (T.self X.A 0 _ _ _ st4 loop)
theorem pe_da {kx vx tg iter : Expr} {ifs : List Expr} {scope : Scope} {own : List (PySem.Str × Nat)} {pos : Pos} {wi : TI} {g : TG} {tt : TT} {tk tv : TE}
    (pu : Puts X O0 Pu) (calm : X.calm = true) (ndp : X.N.Nodup) (walk : PI X tg iter wi) (ok : BlkOk X.N X.env.scope scope own)
    (tgt : ∀ (s : Shared) (H : Hp) (C : Addr) (cl : List (PySem.Str × Addr)) (fp : List Addr), PG (X.blk s H scope (compEnvC scope cl C X.env) fp) tg g) (tst : ∀ (s : Shared) (H : Hp) (C : Addr) (cl : List (PySem.Str × Addr)) (fp : List Addr), PTs (X.blk s H scope (compEnvC scope cl C X.env) fp) ifs tt)
    (key : ∀ (s : Shared) (H : Hp) (C : Addr) (cl : List (PySem.Str × Addr)) (fp : List Addr), PE (X.blk s H scope (compEnvC scope cl C X.env) fp) kx tk)
    (val : ∀ (s : Shared) (H : Hp) (C : Addr) (cl : List (PySem.Str × Addr)) (fp : List Addr), PE (X.blk s H scope (compEnvC scope cl C X.env) fp) vx tv) (plain : ∀ x, foldedSetIterable iter X.env x = pure x := by intro _; rfl) :
    PE X (.DictComp kx vx [⟨tg, iter, ifs, 0⟩] scope pos) (tDa O0 Pu wi g tt tk tv (own.map (·.2))) := ⟨fun pins s σ H Q I h => by
  rw [arm_eval_DictComp]
  refine da_run pu calm ndp I walk ok tgt tst key val plain h fun D C s' m H' J q ns f => ⟨m, ns, fun h'' sb => ?_⟩
  obtain ⟨f0, f1, f2, f3, f4, f5⟩ := f
  exact ⟨.ref D, H', J.turned (t' := s'.toks) (fun b o hb e => (sb.2 b hb).trans e) f0 f1 f3 f4 f5, rfl, q⟩⟩
end
end Nd

namespace Nd
open PySem PySem.Spec PyProof.Rows L2 Dl Ns
def PuN (X : Cx) (S : Addr) (y z : V) (H : Hp) (Nx : Hp → Prop) : Prop := ∃ (m : Addr × D) (M : List (Addr × D × V)), y = .ref m.1 ∧ H S = some (NDO S (M.map kn)) ∧ Mem X.K (fun _ => False) H m ∧ MemA X.K (fun _ => False) H M ∧ M.length < sizeLine ∧
  m.2 ∉ M.map (·.2.1) ∧ Nx (upd H S (NDO S ((M ++ [(m.1, m.2, z)]).map kn)))
theorem puts_N {X : Cx} (hu : X.A.units + 8 < cLine) : Puts X (fun D => NDO D []) (PuN X) where
  new := fun H h hb => ndo_empty h hb
  put := fun s0 H0 sc ce fp pins σ H s D y z u r Nx E Q I ry rz hp h => by
    obtain ⟨m, M, rfl, hS, hm, hM, few, new, nx⟩ := hp
    cases (show u = Value.ref m.1 from ry)
    exact nd_put (X := X.blk s0 H0 sc ce fp) hu I hS hm hM few new rz fun s' I' => h s' _ I' nx
abbrev dcnD (ps : List (D × D)) : D := .obj (.dcn (ps.map fun p => keyD p.1)) ((ps.map fun _ => ("" : Str)) ++ ps.map fun _ => ("" : Str)) (ps.map (·.1) ++ ps.map (·.2))
def still : D → Bool
  | .bl _ => true | .str _ => true
  | d => kok d
theorem still_off {K : PySem.W.Frag} {Av : Addr → Prop} {H : Hp} {S : Addr} {o : HO} (hS : H S = some o) (no : ∀ xs, o ≠ .tup xs) : ∀ (d : D) (v : V), still d = true → Den K Av H v d → Den K (fun a => Av a ∨ a = S) H v d
  | .bl _, v, _, h => by simpa only [Den] using h
  | .str _, v, _, h => by simpa only [Den] using h
  | .non, v, k, h => den_off hS no _ v k h
  | .int i, v, k, h => den_off hS no _ v k h
  | .tup xs, v, k, h => den_off hS no _ v k h
  | .lst _, _, k, _ => by cases k
  | .ref _, _, k, _ => by cases k
  | .ty _, _, k, _ => by cases k
  | .obj _ _ _, _, k, _ => by cases k
def isKey (d : D) : Prop := kok d = true ∧ d.dep ≤ 8 ∧ ∃ ys, d = .tup ys
def dnD (gd : TGD) (tt : TTD) (tk tv : TED) (env : DEnv) : List D → List (D × D) → (D → Prop) → Prop
  | [], acc, Q => Q (dcnD acc)
  | x :: xs, acc, Q => gd x env fun env2 => tt env2 fun b => if b = true then tk env2 fun y => isKey y ∧ y ∉ acc.map (·.1) ∧ tv env2 fun z => still z = true ∧ dnD gd tt tk tv env xs (acc ++ [(y, z)]) Q else dnD gd tt tk tv env xs acc Q
def dDn (tid : TID) (gd : TGD) (tt : TTD) (tk tv : TED) (vs : List Nat) : TED := fun env Q => tid (frz env) fun ds => ds.length ≤ sizeLine ∧ dnD gd tt tk tv (wipeD (frz env) vs) ds [] Q
theorem refs_den {K : PySem.W.Frag} {Av : Addr → Prop} {H : Hp} : ∀ {M : List (Addr × D × V)}, MemA K Av H M → DenA K Av H (M.map fun m => V.ref m.1) (M.map (·.2.1))
  | [], _ => by simp [DenA]
  | m :: M, h => by
    rw [List.map_cons, List.map_cons]
    simp only [DenA]
    exact ⟨_, _, rfl, (h m List.mem_cons_self).den, refs_den fun x hx => h x (List.mem_cons_of_mem _ hx)⟩
theorem kn_zip : ∀ M : List (Addr × D × V), M.map kn = (M.map fun m => keyD m.2.1).zip (M.map fun m => (m.1, m.2.2))
  | [] => rfl
  | m :: M => by rw [List.map_cons, List.map_cons, List.map_cons, List.zip_cons_cons, ← kn_zip M]
section
variable {X : Cx} {g : Gx} {wi : TI} {gt : TG} {tt : TT} {tk te : TE} {vs : List Nat} {tid : TID} {gd : TGD} {td : TTD} {kd ed : TED}
structure SofarN (X : Cx) (I : HI) (S : Addr) (n : Nat) (H1 H : Hp) (acc : List (D × D)) : Prop where
  ex : ∃ M : List (Addr × D × V), H S = some (NDO S (M.map kn)) ∧ M.length ≤ n ∧ MemA X.K (fun a => I.own a ∨ a = S) H M ∧ M.map (·.2.1) = acc.map (·.1) ∧ DenA X.K (fun a => I.own a ∨ a = S) H (M.map (·.2.2)) (acc.map (·.2))
  kp : Kp I.own H1 H
  ok : I.ok H
theorem sd_dn (hi : SI X.K g wi tid) (hg : SG X.K g.nox gt gd) (hw : GW gt vs) (ht : ST X.K g.nox tt td) (hk : SE X.K g.nox tk kd) (he : SE X.K g.nox te ed) :
    SE X.K g (tDa (fun D => NDO D []) (PuN X) wi gt tt tk te vs) (dDn tid gd td kd ed vs) := fun b σ H env Qd Q hd xl hq k => by
  refine hi b σ H (frz env) _ _ hd.frz xl hq fun J H1 hws ds hd1 e1 it0 ⟨hlen, q⟩ => ?_
  intro S hS
  have hE : DenE X.K g.I ⟨H1, hws⟩ (wipe σ vs) H1 (wipeD (frz env) vs) := (hd1.rebase (noOwn_frz env)).wiped vs
  have hno := noOwn_wipe (noOwn_frz env) vs
  have nS : ¬ g.I.own S := HI.nown e1.2 hS
  have offS : ∀ {L : List Ent} xs, NDO S L ≠ .tup xs := fun xs z => by unfold NDO at z; cases z
  refine ⟨fun i m H' => m = ds.length - i ∧ i ≤ ds.length ∧ ∃ acc, SofarN X g.I S i H1 H' acc ∧ dnD gd td kd ed (wipeD (frz env) vs) (ds.drop i) acc Qd,
    ⟨ds.length, by simp, Nat.zero_le _, [], ⟨⟨[], upd_same, Nat.le_refl _, fun m hm => (by cases hm), rfl, by simp [DenA]⟩, Kp.new hS, (Ext.new e1.2 hS).2⟩, by simpa using q⟩, ?_⟩
  rintro i m H' ⟨rfl, hi', acc, ⟨⟨M, hM, hMl, hMm, hMk, hMv⟩, kp', ok⟩, q'⟩
  have eH : Ext g.I H1 H' := ⟨kp', ok⟩
  have hE' := hE.mono eH
  obtain ⟨oa, h1, h2, h3, h4⟩ := id hE'.slots
  have IT := it0 g.I.own H' (fun p hp => Den.weak (fun a z => .inl z) _ _ (h4 p hp)) (fun a z => g.I.dom H' a ok (g.I.sub a z))
  by_cases hlt : i < ds.length
  · refine .inr ⟨(IT.1 i hlt).1, fun H2 => ∃ acc, SofarN X g.I S (i + 1) H1 H2 acc ∧ dnD gd td kd ed (wipeD (frz env) vs) (ds.drop (i + 1)) acc Qd, fun H2 h => ⟨ds.length - (i + 1), by omega, rfl, hlt, h⟩, fun x H2 y => ?_⟩
    obtain ⟨kn', d, hd2, dn⟩ := (IT.1 i hlt).2 x H2 y
    have e2 : Ext g.I H' H2 := .ofNew ok kn'
    have q2 : dnD gd td kd ed (wipeD (frz env) vs) (d :: ds.drop (i + 1)) acc Qd := by
      rw [List.drop_eq_getElem_cons hlt] at q'
      have : d = ds[i] := by
        rw [List.getElem?_eq_getElem hlt] at hd2
        exact (Option.some.inj hd2).symm
      rw [this]; exact q'
    have held := (hE'.mono e2).hold dn (.inl hno)
    have step := hw x (wipe σ vs) H2 _ (hg ⟨H1, hws⟩ (wipe σ vs) H2 _ x d _ (fun σ2 H3 => tt σ2 H3 fun b H4 => if b = true then tk σ2 H4 fun y H5 => te σ2 H5 fun z H6 => PuN X S y z H6 fun H7 => ∃ acc, SofarN X g.I S (i + 1) H1 H7 acc ∧ dnD gd td kd ed (wipeD (frz env) vs) (ds.drop (i + 1)) acc Qd
        else ∃ acc, SofarN X g.I S (i + 1) H1 H4 acc ∧ dnD gd td kd ed (wipeD (frz env) vs) (ds.drop (i + 1)) acc Qd) held q2 fun σ3 H3 env3 hd3 e3 q3 => ?_)
    · rw [wipe_idem vs] at step
      exact step
    · refine ht ⟨H1, hws⟩ σ3 H3 env3 _ _ hd3 XL.nox q3 fun c H4 e4 q4 => ?_
      have x4 : Ext g.I H' H4 := e2.trans (e3.trans e4)
      have S4 : H4 S = some (NDO S (M.map kn)) := x4.1 S _ nS hM
      have K4 : MemA X.K (fun a => g.I.own a ∨ a = S) H4 M := fun m hm => (hMm m hm).keep (x4.1.weak fun a z => .inl z)
      have M4 : DenA X.K (fun a => g.I.own a ∨ a = S) H4 (M.map (·.2.2)) (acc.map (·.2)) := DenA.keep (x4.1.weak fun a z => .inl z) _ _ hMv
      cases c with
      | false =>
        rw [if_neg Bool.false_ne_true] at q4 ⊢
        exact ⟨acc, ⟨⟨M, S4, by omega, K4, hMk, M4⟩, kp'.trans x4.1, x4.2⟩, q4⟩
      | true =>
        rw [if_pos rfl] at q4 ⊢
        refine hk ⟨H1, hws⟩ σ3 H4 env3 _ _ (hd3.mono e4) XL.nox q4 fun yv yd H5 e5 dn5 ⟨⟨ky, lo, ys, ey⟩, fresh, q5⟩ => ?_
        refine he ⟨H1, hws⟩ σ3 H5 env3 _ _ (hd3.mono (e4.trans e5)) XL.nox q5 fun zv zd H6 e6 dn6 ⟨kz, q6⟩ => ?_
        have x6 : Ext g.I H4 H6 := e5.trans e6
        have S6 : H6 S = some (NDO S (M.map kn)) := x6.1 S _ nS S4
        have K6 : MemA X.K (fun a => g.I.own a ∨ a = S) H6 M := fun m hm => (K4 m hm).keep (x6.1.weak fun a z => .inl z)
        have M6 : DenA X.K (fun a => g.I.own a ∨ a = S) H6 (M.map (·.2.2)) (acc.map (·.2)) := DenA.keep (x6.1.weak fun a z => .inl z) _ _ M4
        obtain ⟨p, rfl⟩ : ∃ p, yv = .ref p := by
          rw [ey] at dn5
          simp only [Den] at dn5
          obtain ⟨p, _, e, _⟩ := dn5
          exact ⟨p, e⟩
        have my : Mem X.K (fun a => g.I.own a ∨ a = S) H6 (p, yd) := ⟨den_off S6 offS yd _ ky (Den.keep e6.1 _ _ dn5), ky, lo⟩
        have mu : ∀ o, Kp (fun a => g.I.own a ∨ a = S) H6 (upd H6 S o) := fun o => Kp.mut (.inr rfl)
        refine ⟨(p, yd), M, rfl, S6, my.weak fun _ z => z.elim, fun x hx => (K6 x hx).weak fun _ z => z.elim, by omega, by rw [hMk]; exact fresh, acc ++ [(yd, zd)], ⟨⟨M ++ [(p, yd, zv)], upd_same, by rw [List.length_append, List.length_singleton]; omega, fun x hx => ?_, by rw [List.map_append, List.map_append, hMk]; rfl, ?_⟩, fun a o n e => ?_, ?_⟩, q6⟩
        · rcases List.mem_append.mp hx with hx | hx
          · exact (K6 x hx).keep (mu _)
          · rw [List.mem_singleton.mp hx]
            exact my.keep (mu _)
        · rw [show (M ++ [(p, yd, zv)]).map (·.2.2) = M.map (·.2.2) ++ [zv] from List.map_append, show (acc ++ [(yd, zd)]).map (·.2) = acc.map (·.2) ++ [zd] from List.map_append]
          exact DenA.app (DenA.keep (mu _) _ _ M6) (.one (Den.keep (mu _) _ _ (still_off S6 offS zd _ kz dn6)))
        · rw [upd_ne (ne_of_none e hS)]
          exact (kp'.trans (x4.1.trans x6.1)) a o n e
        · refine g.I.loc H6 _ (fun a f => upd_ne (fun z => ?_)) e6.2
          rw [z] at f
          exact g.I.dom H1 S e1.2 f hS
  · have ei : i = ds.length := by omega
    subst ei
    rw [List.drop_length] at q'
    refine .inl ⟨IT.2, k _ _ H' (e1.trans eH) ?_ q'⟩
    have lm : M.length = acc.length := by
      have := congrArg List.length hMk
      simpa using this
    simp only [Den]
    refine ⟨(M.map fun m => V.ref m.1) ++ M.map (·.2.2), by simp [lm], ⟨S, M.map fun m => (m.1, m.2.2), rfl, by rw [List.map_map, List.map_map]; rfl, by simp [lm], nS, ?_⟩, ?_⟩
    · rw [hM, kn_zip]
      congr 3
      have : (M.map (·.2.1)).map keyD = (acc.map (·.1)).map keyD := by rw [hMk]
      rw [List.map_map, List.map_map] at this
      exact this
    · rw [← hMk]
      exact DenA.weak (fun a z => .inl z) _ _ ((refs_den hMm).app hMv)
end
section
variable {X : Cx} {g : Gx} {kx vx tg iter : Expr} {ifs : List Expr} {scope : Scope} {own : List (Str × Nat)} {pos : Pos} {gt : TG} {tid : TID} {gd : TGD} {td : TTD} {kd ed : TED}
theorem d_dn (hu : X.A.units + 64 < cLine) (hc : X.calm = true) (hN : X.N.Nodup) (hi : PID X g tg iter tid) (ok : BlkOk X.N X.env.scope scope own)
    (hg : ∀ (s : Shared) (H : Hp) (C : Addr) (cl : List (Str × Addr)) (fp : List Addr), PG (X.blk s H scope (compEnvC scope cl C X.env) fp) tg gt) (sg : SG X.K g.nox gt gd) (gw : GW gt (own.map (·.2)))
    (ht : ST X.K g.nox (wBT X scope ifs) td) (hk : SE X.K g.nox (wBE X scope kx) kd) (he : SE X.K g.nox (wBE X scope vx) ed) (hs : ∀ x, foldedSetIterable iter X.env x = pure x := by intro _; rfl) :
    PED X g (.DictComp kx vx [⟨tg, iter, ifs, 0⟩] scope pos) (dDn tid gd td kd ed (own.map (·.2))) :=
  ped_of (pe_da (puts_N (by omega)) hc hN pi_w ok hg (fun _ _ _ _ _ => pt_blk) (fun _ _ _ _ _ => pe_blk) (fun _ _ _ _ _ => pe_blk) hs) (sd_dn hi sg gw ht hk he)
end
theorem DenA.split {K : PySem.W.Frag} {Av : Addr → Prop} {H : Hp} : ∀ {a : List V} {x : List D} {b : List V} {y : List D}, a.length = x.length → DenA K Av H (a ++ b) (x ++ y) → DenA K Av H a x ∧ DenA K Av H b y
  | [], [], b, y, _, h => ⟨by simp [DenA], h⟩
  | v :: a, d :: x, b, y, l, h => by
    rw [List.cons_append, List.cons_append] at h
    simp only [DenA] at h
    obtain ⟨v', r, e, h1, h2⟩ := h
    cases e
    obtain ⟨p, q⟩ := DenA.split (by simpa using l) h2
    exact ⟨by simp only [DenA]; exact ⟨_, _, rfl, h1, p⟩, q⟩
theorem dict_is {K : PySem.W.Frag} {Av : Addr → Prop} {H : Hp} {v : V} {ps : List (D × D)} (kk : ∀ p ∈ ps, isKey p.1) (h : Den K Av H v (dcnD ps)) :
    ∃ (a : Addr) (M : List (Addr × D × V)), v = .ref a ∧ H a = some (NDO a (M.map kn)) ∧ MemA K Av H M ∧ M.map (·.2.1) = ps.map (·.1) ∧ DenA K Av H (M.map (·.2.2)) (ps.map (·.2)) := by
  simp only [Den] at h
  obtain ⟨ws, hl, ⟨a, T, rfl, ew, lt, na, hp⟩, dn⟩ := h
  rw [List.length_map] at lt
  rw [ew] at dn
  obtain ⟨d1, d2⟩ := DenA.split (by simp [lt]) dn
  have key : ∀ {T : List (Addr × V)} {ps : List (D × D)}, T.length = ps.length → (∀ p ∈ ps, isKey p.1) → DenA K Av H (T.map fun t => V.ref t.1) (ps.map (·.1)) →
      ∃ M : List (Addr × D × V), M.map (fun m => (m.1, m.2.2)) = T ∧ MemA K Av H M ∧ M.map (·.2.1) = ps.map (·.1) := by
    intro T
    induction T with
    | nil => intro ps l _ _; cases ps with
      | nil => exact ⟨[], rfl, fun x hx => (by cases hx), rfl⟩
      | cons p ps => cases l
    | cons t T ih => intro ps l kk dn; cases ps with
      | nil => cases l
      | cons p ps =>
        rw [List.map_cons, List.map_cons] at dn
        simp only [DenA] at dn
        obtain ⟨v, r, e, h1, h2⟩ := dn
        cases e
        obtain ⟨M, e1, e2, e3⟩ := ih (by simpa using l) (fun q hq => kk q (List.mem_cons_of_mem _ hq)) h2
        obtain ⟨k1, k2, _⟩ := kk p List.mem_cons_self
        refine ⟨(t.1, p.1, t.2) :: M, by rw [List.map_cons, e1], fun x hx => ?_, by rw [List.map_cons, List.map_cons, e3]⟩
        rcases List.mem_cons.mp hx with e | hx
        · rw [e]; exact ⟨h1, k1, k2⟩
        · exact e2 x hx
  obtain ⟨M, e1, e2, e3⟩ := key lt kk d1
  refine ⟨a, M, rfl, ?_, e2, e3, ?_⟩
  · rw [hp, kn_zip, e1]
    congr 3
    have : (M.map (·.2.1)).map keyD = (ps.map (·.1)).map keyD := by rw [e3]
    rw [List.map_map, List.map_map] at this
    exact this.symm
  · rw [← e1, List.map_map] at d2
    exact d2
def dGetN (ta tb : TED) : TED := fun env Q => ta env fun x => tb env fun y => ∃ (ps : List (D × D)) (i : Nat) (d : D), x = dcnD ps ∧ (∀ p ∈ ps, isKey p.1) ∧ isKey y ∧ ps[i]? = some (y, d) ∧ Q d
def tNGet (X : Cx) (ta tb : TE) : TE := fun σ H Q => ta σ H fun x H1 => tb σ H1 fun y H2 => ∃ (S : Addr) (m : Addr × D) (M : List (Addr × D × V)) (i : Nat) (c : Addr) (v : V), x = .ref S ∧ y = .ref m.1 ∧ H2 S = some (NDO S (M.map kn)) ∧ Mem X.K (fun _ => False) H2 m ∧ MemA X.K (fun _ => False) H2 M ∧ M[i]? = some (c, m.2, v) ∧ Q v H2
section
variable {X : Cx} {g : Gx} {a b : Expr} {ta tb : TED} {pos : Pos}
theorem pe_nget {ua ub : TE} (hu : X.A.units + 9 < cLine) (ho : PE X a ua) (hi : PE X b ub) (hs : NoSl b) : PE X (.Subscript a b pos) (tNGet X ua ub) := by
  refine ⟨fun pins s σ H Q I h => ?_⟩
  refine subD_of PySem.F.slot_dict_getitem.lookup hs (thn (ho.run pins s σ H _ I h) fun u s1 ⟨x, H1, I1, rx, q1⟩ => thn (hi.run pins s1 σ H1 _ I1 q1) fun iv s2 ⟨y, H2, I2, ry, S, m, M, i, c, v, ex, ey, hS, hm, hM, hc, q2⟩ => ?_)
  subst ex ey
  obtain rfl : u = Value.ref S := rx
  obtain rfl : iv = Value.ref m.1 := ry
  have T : s2.TypeIs (.ref S) "dict" := by
    obtain ⟨_, _, _, o, _, _, h1, h2, _⟩ := raw_of I2 hS
    exact ⟨o, h1, h2.1⟩
  exact ⟨T, nd_get hu I2 hS hm hM hc fun w' s3 I3 rw' => ⟨v, H2, I3, rw', q2⟩⟩
theorem d_getN (hu : X.A.units + 64 < cLine) (ha : PED X g a ta) (hb : PED X g b tb) (hs : NoSl b := by intro _ _; rfl) : PED X g (.Subscript a b pos) (dGetN ta tb) :=
  ped_of (pe_nget (by omega) pe_w pe_w hs) fun b0 σ H env Qd Q hd xl h k => ha b0 σ H env _ _ hd xl h fun x dx H1 e1 dnx h1 => hb b0 σ H1 env _ _ (hd.mono e1) xl h1 fun y dy H2 e2 dny ⟨ps, i, d, ex, kk, ky, hi, q⟩ => by
    subst ex
    obtain ⟨S, M, rfl, hS, hM, hk, hv⟩ := dict_is kk (Den.keep e2.1 _ _ dnx)
    obtain ⟨k1, k2, ys, ey⟩ := ky
    obtain ⟨p, rfl⟩ : ∃ p, y = .ref p := by
      rw [ey] at dny
      simp only [Den] at dny
      obtain ⟨p, _, e, _⟩ := dny
      exact ⟨p, e⟩
    have lm : M.length = ps.length := by
      have := congrArg List.length hk
      simpa using this
    have hlt : i < ps.length := (List.getElem?_eq_some_iff.mp hi).1
    have hMi : M[i]? = some M[i] := List.getElem?_eq_getElem (by omega)
    obtain ⟨v, hv1, dv⟩ := hv.get (i := i) (d := d) (by rw [List.getElem?_map, hi]; rfl)
    rw [List.getElem?_map, hMi] at hv1
    have kd : (M[i]).2.1 = dy := by
      have := congrArg (fun l : List D => l[i]?) hk
      simp only [List.getElem?_map, hMi, hi, Option.map_some, Option.some.injEq] at this
      exact this
    refine ⟨S, (p, dy), M, i, M[i].1, v, rfl, rfl, hS, (show Mem X.K (fun _ => False) H2 (p, dy) from ⟨Den.weak (fun _ z => z.elim) _ _ dny, k1, k2⟩), fun x hx => (hM x hx).weak fun _ z => z.elim, ?_, k _ _ _ (e1.trans e2) dv q⟩
    rw [hMi, ← kd]
    simp only [Option.map_some, Option.some.injEq] at hv1
    rw [← hv1]
end
end Nd

namespace Tm
open PySem PySem.Spec PyProof.Rows L2 Dl
abbrev Cls := Value × Option Nat × (Addr → Value → Option Addr → TS)
def endE (D : Ends) : Option Nat → Ends
  | none => D
  | some i => ⟨fun σ H => D.nx (σ.set i none) H, D.rt, fun σ H => D.bk (σ.set i none) H, fun σ H => D.ct (σ.set i none) H⟩
def begS (σ : L2.St) (a : Addr) : Option Nat → L2.St
  | none => σ
  | some i => σ.set i (some (.ref a))
def wMix (K : PySem.W.Frag) (W : WX) (D : Ends) : List Cls → WX
  | [] => W
  | q :: r => fun cls d σ H => ∃ t, PySem.W.exmOne K cls q.1 = some t ∧ (t = true → ∀ a, H a = none → q.2.2 a cls d (endE D q.2.1) (begS σ a q.2.1) H) ∧ (t = false → wMix K W D r cls d σ H)
abbrev Suite (X : Cx) (ss : List Stmt) (ts : Addr → Value → Option Addr → TS) : Prop := ∀ (a : Addr) (oe : Obj) (cls : Value) (d : Option Addr) (pn : List (Addr × Obj)), Zc cls d oe → (∃ vs, oe.data = .fields vs) → PSs (X.suite a ((a, oe) :: pn)) ss (ts a cls d)
inductive Mix (X : Cx) : List ExceptHandler → List Cls → Prop
  | nil : Mix X [] []
  | plain {x : Str} {c : Value} {ts : Addr → Value → Option Addr → TS} {s₀ : Stmt} {ss : List Stmt} {np p : Pos} {hs : List ExceptHandler} {l : List Cls} (nm : Names X x c) (su : Suite X (s₀ :: ss) ts) (r : Mix X hs l) :
      Mix X (.ExceptHandler (some (.Name x np)) none (s₀ :: ss) p :: hs) ((c, none, ts) :: l)
  | named {x n : Str} {i : Nat} {c : Value} {ts : Addr → Value → Option Addr → TS} {s₀ : Stmt} {ss : List Stmt} {np p : Pos} {hs : List ExceptHandler} {l : List Cls} (hi : X.N[i]? = some n) (kl : X.env.kindOf n = some .local) (nm : Names X x c) (su : Suite X (s₀ :: ss) ts) (r : Mix X hs l) :
      Mix X (.ExceptHandler (some (.Name x np)) (some n) (s₀ :: ss) p :: hs) ((c, some i, ts) :: l)
section
variable {X : Cx} {body : List Stmt} {h0 : ExceptHandler} {hs : List ExceptHandler} {l : List Cls} {pos : Pos} {tb : WX → TS} {W : WX}
theorem ps_mix (st : X.stack = X.env :: X.outer) (fr : X.env.frame = some X.env.locals) (ndp : X.N.Nodup) (tk : Takes X W)
    (bd : ∀ (V : WX) (pn : List (Addr × Obj)) (xe : Value → Shared → Prop), Takes (X.tr pn xe) V → PassesOwn (model X.prog X.w) X.A X.env xe → PSs (X.tr pn xe) body (tb V))
    (mx : Mix X (h0 :: hs) l) : PS X (.Try body (h0 :: hs) [] [] pos) (fun D σ H => tb (wMix X.K W D l) D σ H) := ⟨fun pins s σ H D I q => by
  have ok := I.ok
  have frs' : X.A.frames = some (X.env :: X.outer) := ok.frames.trans (congrArg some st)
  refine wpAny_Try_except (wpAny_mono ((bd (wMix X.K W D l) (X.pn ++ pins) (fun e s1 => wpAny (model X.prog X.w) X.A (noteFrame e X.env) (fun _ s2 => wpAny (model X.prog X.w) X.A (setFlight e none) (fun _ s3 => wpAny (model X.prog X.w) X.A (handleBy e X.env (h0 :: hs)) (SP X pins D) X.xe s3) X.xe s2) X.xe s1) (fun u t xx => ?_) PassesOwn.looking).run [] s σ H D (I.toTry _) q) (fun f s1 sp => ?_) fun _ _ he => he)
  · obtain ⟨a, B, sI, pins', τ, G, cls, d, rfl, J0, nb, up, sky, na, os, ag, w⟩ := xx
    have J : Inv X pins τ G sI := J0.ofTry ok
    rw [st] at sky
    show wpAny (model X.prog X.w) X.A (noteFrame (.ref a) X.env) _ _ _
    refine Sky.land Zc.steady frs' fr sky fun h3 fl3 up3 => ?_
    have up13 := up.trans up3
    have J3 : Inv X pins τ G { t with heap := h3 } := J.landed nb fl3.1 up13 os ag
    obtain ⟨o3, v3, ho3, hz3, hd3⟩ := fl3.there
    have nfr : a ∉ frs (X.env :: X.outer) := fun hm => by
      obtain ⟨_, o', e', hnf⟩ := fl3.2.2.1.mem hm
      rw [ho3] at e'
      cases e'
      exact hnf _ hd3
    have nL : a ≠ X.env.locals := fun z => nfr (List.mem_filterMap.mpr ⟨X.env, List.mem_cons_self, by rw [fr, z]⟩)
    have nF : a ∉ X.fs := fun hm => by
      obtain ⟨e, he, q⟩ := List.mem_filterMap.mp hm
      exact nfr (List.mem_filterMap.mpr ⟨e, List.mem_cons_of_mem _ he, q⟩)
    have S3 := J3.suite ho3 hd3 na nL nF
    have LT : PySem.W.Looks (model X.prog X.w) h3 (typeOf (.ref a)) cls := fun A Q E s k q => wpAny_typeOf_ref (k _ _ ho3) (by rw [hz3.1]; exact q)
    have ask : ∀ {x : Str} {c : Value} {np : Pos}, Names X x c → ∀ {Q : Value → Shared → Prop} {E : Value → Shared → Prop}, Q c { t with heap := h3 } → wpAny (model X.prog X.w) (X.A.mark (some (.ref a))) (eval (.Name x np) X.env) Q E { t with heap := h3 } := by
      intro x c np nm Q E q
      rcases nm with ⟨g1, g2, m | ⟨m, v, nn⟩⟩
      · exact ld_glob (X := X.suite a ((a, o3) :: (X.pn ++ pins))) S3 g1 m q g2
      · exact ld_blt (X := X.suite a ((a, o3) :: (X.pn ++ pins))) S3 g1 m v q nn g2
    have go : ∀ {hs' : List ExceptHandler} {l' : List Cls}, Mix X hs' l' → wMix X.K W D l' cls d τ G → wpAny (model X.prog X.w) X.A (handleBy (.ref a) X.env hs') (SP X pins D) X.xe { t with heap := h3 } := by
      intro hs' l' hk
      induction hk with
      | nil =>
        intro w
        refine wpAny_handleBy_nil ?_
        obtain ⟨_, _, _, oe, vs, T, oT, ts', he, hz, hd, h1, hr⟩ := id fl3
        unfold PySem.passOn
        refine wpAny_bind (wpAny_field he hd h1 ?_)
        rw [if_neg (show ¬ (Value.ref T == Value.none) = true from by simp)]
        have out : wpAny (model X.prog X.w) X.A (setFlight (.ref a) X.env.frame) (fun _ s4 => wpAny (model X.prog X.w) X.A (throw (.ref a) : Sem Flow) (SP X pins D) X.xe s4) X.xe { t with heap := h3 } := by
          rw [fr]
          refine HandSPX.setFlight_upZ fl3 fun h4 hh4 up4 => wpAny_throw (tk _ _ ?_)
          exact ⟨a, B, sI, pins, τ, G, cls, d, rfl, J, nb, up13.trans up4, .inr (.inr (by rw [st]; exact hh4)), na, os, ag, w⟩
        first
          | exact wpAny_bind (wpAny_pure (wpAny_bind out))
          | exact wpAny_bind out
      | @plain x c ts s₀ ss np p hs2 l2 nm su r ih =>
        rintro ⟨b, hb1, yes, no⟩
        refine wpAny_handleBy_cons (codeAny_handlers_test ?_) (by intro q; cases q)
        refine ask nm ((PySem.W.exm_one (M := model X.prog X.w) J3.kIn LT hb1).here ?_)
        cases b with
        | true =>
          refine codeAny_handlers_suite (HandSPX.lands_againZ fl3 fun h4 fl4 up4 => ?_)
          have J4 : Inv X pins τ G { t with heap := h4 } := J.landed nb fl4.1 (up13.trans up4) os ag
          obtain ⟨o4, v4, ho4, hz4, hd4⟩ := fl4.there
          refine wpAny_mono ((su a o4 cls d (X.pn ++ pins) hz4 ⟨_, hd4⟩).run [] _ _ G _ (J4.suite ho4 hd4 na nL nF) (yes rfl a na)) (fun f s6 sp => ?_) fun _ _ z => z.elim
          cases f with
          | ret u => obtain ⟨v6, τ6, G6, S6, r6, q6⟩ := sp; exact ⟨_, _, _, S6.unsuite ok, r6, q6⟩
          | next => obtain ⟨τ6, G6, S6, q6⟩ := sp; exact ⟨_, _, S6.unsuite ok, q6⟩
          | brk => obtain ⟨τ6, G6, S6, q6⟩ := sp; exact ⟨_, _, S6.unsuite ok, q6⟩
          | cont => obtain ⟨τ6, G6, S6, q6⟩ := sp; exact ⟨_, _, S6.unsuite ok, q6⟩
        | false =>
          show wpAny _ X.A (handleBy (.ref a) X.env hs2) _ _ _
          exact ih (no rfl)
      | @named x n i c ts s₀ ss np p hs2 l2 hi kl nm su r ih =>
        rintro ⟨b, hb1, yes, no⟩
        refine wpAny_handleBy_cons (codeAny_handlers_test ?_) (by intro q; cases q)
        refine ask nm ((PySem.W.exm_one (M := model X.prog X.w) J3.kIn LT hb1).here ?_)
        cases b with
        | true =>
          refine codeAny_handlers_suite_as (HandSPX.lands_againZ fl3 fun h4 fl4 up4 => ?_)
          have J4 : Inv X pins τ G { t with heap := h4 } := J.landed nb fl4.1 (up13.trans up4) os ag
          obtain ⟨o4, v4, ho4, hz4, hd4⟩ := fl4.there
          refine store_ok (X := X.suite a ((a, o4) :: (X.pn ++ pins))) (v := .ref a) (J4.suite ho4 hd4 na nL nF) ndp hi (.inl kl) rfl (fun s5 S5 => ?_) (.inr kl)
          refine wpAny_mono ((su a o4 cls d (X.pn ++ pins) hz4 ⟨_, hd4⟩).run [] s5 _ G _ S5 (yes rfl a na)) (fun f s6 sp => ?_) fun _ _ z => z.elim
          cases f with
          | ret u => obtain ⟨v6, τ6, G6, S6, r6, q6⟩ := sp; exact gone_ok (S6.unsuite ok) ndp hi kl fun s7 J7 => ⟨_, _, _, J7, r6, q6⟩
          | next => obtain ⟨τ6, G6, S6, q6⟩ := sp; exact gone_ok (S6.unsuite ok) ndp hi kl fun s7 J7 => ⟨_, _, J7, q6⟩
          | brk => obtain ⟨τ6, G6, S6, q6⟩ := sp; exact gone_ok (S6.unsuite ok) ndp hi kl fun s7 J7 => ⟨_, _, J7, q6⟩
          | cont => obtain ⟨τ6, G6, S6, q6⟩ := sp; exact gone_ok (S6.unsuite ok) ndp hi kl fun s7 J7 => ⟨_, _, J7, q6⟩
        | false =>
          show wpAny _ X.A (handleBy (.ref a) X.env hs2) _ _ _
          exact ih (no rfl)
    exact go mx w
  · cases f with
    | ret u => obtain ⟨v, τ, G, J', r, q⟩ := sp; exact ⟨v, τ, G, J'.ofTry ok, r, q⟩
    | next => obtain ⟨τ, G, J', q⟩ := sp; exact wpAny_execs_nil ⟨τ, G, J'.ofTry ok, q⟩
    | brk => obtain ⟨τ, G, J', q⟩ := sp; exact ⟨τ, G, J'.ofTry ok, q⟩
    | cont => obtain ⟨τ, G, J', q⟩ := sp; exact ⟨τ, G, J'.ofTry ok, q⟩⟩
end
abbrev ClsD := Value × Option Nat × (Addr → Option Addr → Exc → TSD)
def endD (D : DEnds) : Option Nat → DEnds
  | none => D
  | some i => ⟨fun e => D.nx (e.set i .no), D.rt, fun e => D.bk (e.set i .no), fun e => D.ct (e.set i .no)⟩
def begD (env : DEnv) (x : D) : Option Nat → DEnv
  | none => env
  | some i => env.set i (.val x)
def keptD (env : DEnv) (x : Exc) : Option Nat → Prop
  | none => True
  | some i => noOwn (env.set i .no) = true ∨ x.noLst = true
def onMix (K : PySem.W.Frag) (Ed : DEnv → Exc → Prop) (Dd : DEnds) : List ClsD → DEnv → Exc → Prop
  | [], env, x => Ed env x
  | q :: r, env, x => ∃ t, PySem.W.exmOne K (.ref x.cls) q.1 = some t ∧ (t = true → keptD env x q.2.1 ∧ ∀ a d, x.fs.isSome = d.isSome → q.2.2 a d x (endD Dd q.2.1) (begD env (excD a d x) q.2.1)) ∧ (t = false → onMix K Ed Dd r env x)
def sMix (K : PySem.W.Frag) (l : List ClsD) (tb : TSX) (Ed : DEnv → Exc → Prop) : TSD := fun Dd env => tb (onMix K Ed Dd l) Dd env
abbrev liftC (K : PySem.W.Frag) (I : HI) (q : ClsD) : Cls := (q.1, q.2.1, fun a cls d => rdU K I q.2.2 a cls d)
abbrev SuiteD (X : Cx) (I : HI) (ss : List Stmt) (ts : Addr → Option Addr → Exc → TSD) : Prop :=
  ∀ (a : Addr) (oe : Obj) (x : Exc) (d : Option Addr) (pn : List (Addr × Obj)), Zc (.ref x.cls) d oe → (∃ vs, oe.data = .fields vs) → PSsD (X.suite a ((a, oe) :: pn)) ⟨I, fun _ _ => False, fun _ _ _ _ => False⟩ ss (ts a d x)
inductive MixD (X : Cx) (I : HI) : List ExceptHandler → List ClsD → Prop
  | nil : MixD X I [] []
  | plain {x : Str} {c : Value} {ts : Addr → Option Addr → Exc → TSD} {s₀ : Stmt} {ss : List Stmt} {np p : Pos} {hs : List ExceptHandler} {l : List ClsD} (nm : Names X x c) (su : SuiteD X I (s₀ :: ss) ts) (r : MixD X I hs l) :
      MixD X I (.ExceptHandler (some (.Name x np)) none (s₀ :: ss) p :: hs) ((c, none, ts) :: l)
  | named {x n : Str} {i : Nat} {c : Value} {ts : Addr → Option Addr → Exc → TSD} {s₀ : Stmt} {ss : List Stmt} {np p : Pos} {hs : List ExceptHandler} {l : List ClsD} (hi : X.N[i]? = some n) (kl : X.env.kindOf n = some .local) (nm : Names X x c) (su : SuiteD X I (s₀ :: ss) ts) (r : MixD X I hs l) :
      MixD X I (.ExceptHandler (some (.Name x np)) (some n) (s₀ :: ss) p :: hs) ((c, some i, ts) :: l)
section
variable {X : Cx} {g : Gx} {body : List Stmt} {h0 : ExceptHandler} {hs : List ExceptHandler} {l : List ClsD} {pos : Pos} {tb : TSX}
theorem suite_lift {ss : List Stmt} {ts : Addr → Option Addr → Exc → TSD} (h : SuiteD X g.I ss ts) : Suite X ss fun a cls d => rdU X.K g.I ts a cls d := fun a oe cls d pn hz hv => ⟨fun pins s σ H E J ⟨b, env, Dd, x, ec, _, hd, h1, el⟩ => by
  subst ec
  exact h a oe x d pn hz hv b σ H env Dd E hd (XL.nox (g := ⟨g.I, g.Ed, g.W⟩)) h1 el pins s J⟩
theorem mix_lift : ∀ {hs : List ExceptHandler} {l : List ClsD}, MixD X g.I hs l → Mix X hs (l.map (liftC X.K g.I))
  | _, _, .nil => .nil
  | _, _, .plain nm su r => .plain nm (suite_lift (g := g) su) (mix_lift r)
  | _, _, .named hi kl nm su r => .named hi kl nm (suite_lift (g := g) su) (mix_lift r)
theorem ds_mix (st : X.stack = X.env :: X.outer) (fr : X.env.frame = some X.env.locals) (ndp : X.N.Nodup) (tk : Takes X g.W) (hx : g.I.noXd)
    (bd : ∀ (Ed : DEnv → Exc → Prop) (W : WX) (pn : List (Addr × Obj)) (xe : Value → Shared → Prop), Takes (X.tr pn xe) W → PassesOwn (model X.prog X.w) X.A X.env xe → PSsD (X.tr pn xe) ⟨g.I, Ed, W⟩ body (tb Ed))
    (mx : MixD X g.I (h0 :: hs) l) : PSD X g (.Try body (h0 :: hs) [] [] pos) (sMix X.K l tb g.Ed) :=
  psd_of (ps_mix (tb := fun W => rdS X.K g.I tb W) st fr ndp tk
    (fun W pn xe tk' po => ⟨fun pins s σ H E J ⟨b, env, Dd, Ed, hd, xl, h, el⟩ => bd Ed W pn xe tk' po b σ H env Dd E hd xl h el pins s J⟩) (mix_lift mx)) fun b σ H env Dd E hd xl h el => by
    refine ⟨b, env, Dd, _, hd, fun σ' H0 env' x d H' hd' e xd hm => ?_, h, ⟨el.nx, el.rt, el.bk, el.ct⟩⟩
    change DenE X.K g.I b σ' H0 env' at hd'
    change Ext g.I H0 H' at e
    change ExD X.K g.I H' x d at xd
    clear mx h
    induction l with
    | nil => exact xl σ' H0 env' x d H' hd' e xd hm
    | cons q r ih =>
      obtain ⟨c, oi, ts⟩ := q
      obtain ⟨t, e1, ht, hff⟩ := hm
      refine ⟨t, e1, fun et a hA => ?_, fun ef => ih (hff ef)⟩
      obtain ⟨kp, q⟩ := ht et
      have hsd : x.fs.isSome = d.isSome := by
        unfold ExD at xd
        cases e2 : x.fs with
        | none => rw [e2] at xd; rw [xd]; rfl
        | some fs =>
          rw [e2] at xd
          obtain ⟨dd, ws, rfl, _⟩ := xd
          rfl
      cases oi with
      | none => exact ⟨b, _, _, x, rfl, hsd, hd'.mono e, q a d hsd, ⟨el.nx, el.rt, el.bk, el.ct⟩⟩
      | some i =>
        refine ⟨b, _, _, x, rfl, hsd, (hd'.mono e).put (excD_den e.2 (hx H' e.2) xd) (kp.imp id excD_noLst), q a d hsd, ?_⟩
        exact ⟨fun σ2 H2 e2 hd2 q2 => el.nx _ _ _ (hd2.del i) q2, el.rt, fun σ2 H2 e2 hd2 q2 => el.bk _ _ _ (hd2.del i) q2, fun σ2 H2 e2 hd2 q2 => el.ct _ _ _ (hd2.del i) q2⟩
end
end Tm

namespace Sl
open PySem PySem.Spec PyProof.Rows L2 Dl Ns Zs Nd
section
variable {X : Cx} {I : HI}
def fRepL : F2 := fun x y Q => ∃ (xs : List D) (k : Int), x = .lst xs ∧ y = .int k ∧ 0 ≤ k ∧ k ≤ 1000 ∧ xs.length ≤ 1000 ∧ Q (.lst (List.replicate k.toNat xs).flatten)
theorem r_repL : RD X I (binaryOp .Mult) fRepL := fun H x y dx dy Qd Q ok hx hy ⟨xs, k, e1, e2, k0, k1, few, h⟩ kk => by
  subst e1 e2
  simp only [Den] at hx hy
  obtain ⟨a, vs, rfl, hl, na, r1⟩ := hx
  have l1 := r1.len
  have : xs.length * k.toNat ≤ 1000 * 1000 := Nat.mul_le_mul few (by omega)
  have z : (1000000 : Nat) ≤ sizeLine := by decide
  exact rw2_of op_rep ⟨a, k, vs, rfl, hy, hl, by omega, by omega, by rw [l1]; omega, fun p hp => kk _ _ _ (.new ok hp) (new_lst ok hp (dena_rep r1 _)) h⟩
end
section
variable {X : Cx} {g : Gx} {e : Expr} {ta tb : TED} {p1 p2 p3 pos : Pos} {k : Nat}
def dRevL (ta : TED) : TED := fun env Q => ta env fun x => ∃ xs, x = .lst xs ∧ xs.length ≤ sizeLine ∧ Q (.lst xs.reverse)
theorem d_revL (he : PED X g e ta) : PED X g (.Subscript e (.Slice none none (some (.UnaryOp .USub (.Constant (.int 1) k p1) p2)) p3) pos) (dRevL ta) :=
  ped_of (pe_revL pe_w) fun b0 σ H env Qd Q hd xl h kk => he b0 σ H env _ _ hd xl h fun x dx H1 e1 dn ⟨xs, ex, _, q⟩ => by
    subst ex
    simp only [Den] at dn
    obtain ⟨a, vs, rfl, hl, na, r⟩ := dn
    exact ⟨a, vs, rfl, SqL.of hl, fun p hp => kk _ _ _ (e1.trans (.new e1.2 hp)) (new_lst e1.2 hp (denA_rev r)) q⟩
def dOrE (ta tb : TED) : TED := fun env Q => ta env Q ∨ tb env Q
theorem d_orE (ha : PED X g e ta) (hb : PED X g e tb) : PED X g e (dOrE ta tb) := fun b0 σ H env Qd Q hd xl h kk =>
  h.elim (fun h => ha b0 σ H env Qd Q hd xl h kk) fun h => hb b0 σ H env Qd Q hd xl h kk
end
end Sl

namespace Zs
open PySem PySem.Spec PyProof.Rows L2 Dl
def rTop (K : PySem.W.Frag) (mx : Bool) : List V → Hp → VK → Prop := fun xs H Q => ∃ (l : Addr) (ns : List Int), xs = [.ref l] ∧ ns ≠ [] ∧ (SqL K H l (ns.map V.int) ∨ SqT K H l (ns.map V.int)) ∧ ∀ m, Top mx ns m → Q (.int m) H
theorem cr_top {X : Cx} (mx : Bool) (hc : X.calm = true) (hu : X.A.units + 64 < cLine) : CallR X (.builtin (bnm mx)) (rTop X.K mx) := fun pins s σ H xs us Q J rx h => by
  obtain ⟨l, ns, rfl, ne, hl, q1⟩ := h
  rw [Vals.ref1 rx]
  obtain ⟨n, ms, rfl⟩ : ∃ n ms, ns = n :: ms := by
    cases ns with
    | nil => exact absurd rfl ne
    | cons n ms => exact ⟨n, ms, rfl⟩
  have got : ∀ (x : PyData) (m : Int) (v : Value) (h' : Heap) (tk : Nat) (bs : List Addr), x = .int m → Reads h' v x bs → Top mx (n :: ms) m → (∀ b o, s.heap.get? b = some o → h'.get? b = some o) → EP X pins σ Q v { s with heap := h', toks := tk } := fun x m v h' tk bs e r t k => by
    subst e
    cases r
    exact ⟨.int m, H, J.kept k, ⟨_, rfl⟩, q1 m t⟩
  have rs : ∀ {vs : List V} {its : List Value}, vs = (n :: ms).map V.int → Vals vs its → ∃ as, ReadsAll s.heap its (PyData.int n :: ms.map PyData.int) as := fun {vs its} e r => by
    subst e
    have z : (PyData.int n :: ms.map PyData.int) = pyA ((n :: ms).map D.int) := (pys (n :: ms)).symm
    rw [z]
    exact Dp.readsAll J _ _ _ (DenA.dp (K := X.K) (Av := fun _ => False) (H := H) _ _ (good_ints (n :: ms)) (ints_den (n :: ms))) r
  have ru2 : X.A.units + 1 + PyData.depthAll (PyData.int n :: ms.map PyData.int) < cLine := by
    have := dep_ints (n :: ms)
    rw [List.map_cons] at this
    rw [this]
    omega
  have al : PySem.W.AlikeAll (PyData.int n :: ms.map PyData.int) := like_ints (n :: ms)
  rcases hl with hl | hl
  · obtain ⟨its, rv, pl, _⟩ := J.list hl
    obtain ⟨as, ra⟩ := rs rfl rv
    cases mx with
    | true => exact PySem.W.max_list_data (J.ok.hd hc) pl.isList (by simpa using ra) al ru2 fun i v h' tk bs hi r k => let ⟨m, e1, t⟩ := fold_max ms n; got _ m v h' tk bs e1 r t k
    | false => exact PySem.W.min_list_data (J.ok.hd hc) pl.isList (by simpa using ra) al ru2 fun i v h' tk bs hi r k => let ⟨m, e1, t⟩ := fold_min ms n; got _ m v h' tk bs e1 r t k
  · obtain ⟨its, rv, ⟨o, ho, ho2, k, hd⟩, _⟩ := J.tuple hl
    obtain ⟨as, ra⟩ := rs rfl rv
    have it : s.heap.IsTuple l its.toArray := ⟨o, ho, ho2, k, hd⟩
    cases mx with
    | true => exact PySem.W.max_tuple_data (J.ok.hd hc) it (by simpa using ra) al ru2 fun i v h' tk bs hi r k => let ⟨m, e1, t⟩ := fold_max ms n; got _ m v h' tk bs e1 r t k
    | false => exact PySem.W.min_tuple_data (J.ok.hd hc) it (by simpa using ra) al ru2 fun i v h' tk bs hi r k => let ⟨m, e1, t⟩ := fold_min ms n; got _ m v h' tk bs e1 r t k
def bTop (mx : Bool) : FC := fun xs Q => ∃ ns : List Int, (xs = [.lst (ns.map D.int)] ∨ xs = [.tup (ns.map D.int)]) ∧ ns ≠ [] ∧ ∀ m, Top mx ns m → Q (.int m)
theorem c_top {X : Cx} {I : HI} (mx : Bool) (hc : X.calm = true) (hu : X.A.units + 64 < cLine) : RC X I (.builtin (bnm mx)) (bTop mx) := fun H xs ds Qd Q ok dn ⟨ns, e, ne, h⟩ k pins s σ us J rx => by
  refine cr_top mx hc hu pins s σ H xs us Q J rx ?_
  have f1 : ∀ m, Top mx ns m → Q (.int m) H := fun m t => k _ _ _ (.refl ok) (by simp only [Den]) (h m t)
  rcases e with rfl | rfl
  · obtain ⟨v, rfl, d1⟩ := dn.one1
    simp only [Den] at d1
    obtain ⟨a, us, rfl, hl, na, r⟩ := d1
    have e2 := r.ofInts
    subst e2
    exact ⟨a, ns, rfl, ne, .inl (SqL.of hl), f1⟩
  · obtain ⟨v, rfl, d1⟩ := dn.one1
    simp only [Den] at d1
    obtain ⟨a, us, rfl, sq, _, r⟩ := d1
    have e2 := r.ofInts
    subst e2
    exact ⟨a, ns, rfl, ne, .inr sq, f1⟩
end Zs

namespace Rd
open PySem PySem.Spec PyProof.Rows L2 Dl Ns Zs
section
variable {env : DEnv} {Q : D → Prop} {R : Bool → Prop} {L : List D → Prop} {i : Nat} {td ta tb : TED} {tr : TAD} {t u : TTD} {Dd : DEnds} {ss st : TSD} {f : TFD}
theorem rVar {s : Slot} {d : D} (h1 : env[i]? = some s) (h2 : rdSlot s = some d) (q : Q d) : dVar i env Q := ⟨s, d, h1, h2, q⟩
theorem rC {d : D} (q : Q d) : dC d env Q := q
theorem rNil (q : L []) : dNil env L := q
theorem rCons (q : td env fun x => tr env fun xs => L (x :: xs)) : dCons td tr env L := q
theorem rInts {ns : List Int} (q : L (ns.map D.int)) : dInts ns env L := q
theorem rOp {o : F2} (q : ta env fun x => tb env fun y => o x y Q) : dOp o ta tb env Q := q
theorem rUn {r : D → (D → Prop) → Prop} (q : ta env fun x => r x Q) : dUn r ta env Q := q
theorem rNeg {h : Int → Int} {i : Int} (q : Q (.int (h i))) : fUn h (.int i) Q := ⟨i, rfl, q⟩
theorem rTest (q : td env fun d => ∃ c, d = .bl c ∧ R c) : dTest td env R := q
theorem rB (q : td env fun d => ∃ c, d = .bl c ∧ R c) : dB td env R := q
theorem rEx {b : Bool} (q : R b) : ∃ c, D.bl b = D.bl c ∧ R c := ⟨b, rfl, q⟩
theorem rOr (q : t env fun c => if c = true then R true else u env R) : dOr t u env R := q
theorem rNot (q : t env fun c => R (!c)) : dNot t env R := q
theorem rYes (q : R true) : dYes env R := q
theorem rAndV (q : ta env fun x => ∃ c, x = .bl c ∧ if c = true then tb env Q else Q (.bl false)) : dAndV ta tb env Q := q
theorem rIfE (q : t env fun c => if c = true then ta env Q else tb env Q) : dIf t ta tb env Q := q
theorem rTup (q : tr env fun xs => xs.length ≤ sizeLine ∧ Q (.tup xs)) : dTup tr env Q := q
theorem rLst (q : tr env fun xs => xs.length ≤ sizeLine ∧ Q (.lst xs)) : dLst tr env Q := q
theorem rFLst (q : tr env fun xs => xs.length ≤ sizeLine ∧ L xs) : fLst tr env L := q
theorem rSz {n : Nat} {p : Prop} (h : n ≤ sizeLine) (q : p) : n ≤ sizeLine ∧ p := ⟨h, q⟩
theorem rF (q : f env fun ds => Q (.lst ds)) : dF f env Q := q
theorem rCB {r : FC} (q : tr env fun xs => r xs Q) : dCB r tr env Q := q
theorem rCall {C : Ct} {dds : List D} {Ed : DEnv → Exc → Prop} (q : tr env fun xs => C (xs ++ dds) Q (Ed env)) : dCall C dds Ed tr env Q := q
theorem rSl {lo hi : TOD} (q : td env fun x => lo env fun l => hi env fun h => fSl x l h Q) : dSl td lo hi env Q := q
theorem rNoP {P : Option Int → Prop} (q : P none) : dNoP env P := q
theorem rPart {P : Option Int → Prop} (q : td env fun x => ∃ i, x = .int i ∧ P (some i)) : dPart td env P := q
theorem rExI {P : Int → Prop} {j : Int} (q : P j) : ∃ i, D.int j = D.int i ∧ P i := ⟨j, rfl, q⟩
theorem rSub {h : Int → Int → D} {a b : Int} (q : Q (h a b)) : fI0 h (.int a) (.int b) Q := ⟨a, b, rfl, rfl, q⟩
theorem rFI {C : Int → Int → Prop} {h : Int → Int → D} {a b : Int} (c : C a b) (q : Q (h a b)) : fI C h (.int a) (.int b) Q := ⟨a, b, rfl, rfl, c, q⟩
theorem rAdd {a b : Int} (q : Q (.int (a + b))) : fAdd (.int a) (.int b) Q := q
theorem rLt {a b : Int} {o : List Int → List Int → Bool} {p : Int → Int → Bool} (q : Q (.bl (p a b))) : fOrd p o (.int a) (.int b) Q := .inl ⟨a, b, rfl, rfl, q⟩
theorem rEqI {a b : Int} {neg : Bool} (q : Q (.bl (xr neg (decide (a = b))))) : fEq neg (.int a) (.int b) Q := ⟨okI_int.ok, okI_int.ok, by rw [eqD_int]; exact q⟩
theorem rLenT {xs : List D} (q : Q (.int xs.length)) : bLen [.tup xs] Q := len_tup q
theorem rLenL {xs : List D} (q : Q (.int xs.length)) : bLen [.lst xs] Q := len_lst q
theorem rTupL {xs : List D} (q : Q (.tup xs)) : bTup [.lst xs] Q := ⟨_, rfl, q⟩
theorem rLstT {xs : List D} (q : Q (.lst xs)) : bLst [.tup xs] Q := ⟨_, rfl, q⟩
theorem rSeq (q : ss { Dd with nx := st Dd } env) : sSeq ss st Dd env := q
theorem rNext (q : Dd.nx env) : sNext Dd env := q
theorem rRet (q : td env Dd.rt) : sRet td Dd env := q
theorem rIf (q : t env fun b => if b = true then ss Dd env else st Dd env) : sIf t ss st Dd env := q
theorem rAsg (q : td env fun d => keepable env i d ∧ Dd.nx (env.set i (.val d))) : sAsg i td Dd env := q
theorem rKeep {d : D} {p : Prop} (k : keepable env i d) (q : p) : keepable env i d ∧ p := ⟨k, q⟩
theorem rNew (q : f env fun ds => i < env.length ∧ (noOwn (env.set i .no) = true ∨ noLstA ds = true) ∧ Dd.nx (env.set i (.own ds))) : sNew i f Dd env := q
theorem rNewK {ds : List D} {p : Prop} (h : i < env.length) (k : noOwn (env.set i .no) = true ∨ noLstA ds = true) (q : p) : i < env.length ∧ (noOwn (env.set i .no) = true ∨ noLstA ds = true) ∧ p := ⟨h, k, q⟩
theorem rYesT {p q : Prop} (k : p) : if true = true then p else q := k
theorem rLc {tid : TID} {gd : TGD} {vs : List Nat} (q : tid (frz env) fun ds => ds.length ≤ 1000000 ∧ lcD gd t ta (wipeD (frz env) vs) ds [] L) : fLc tid gd t ta vs env L := q
theorem rDn {tid : TID} {gd : TGD} {vs : List Nat} (q : tid (frz env) fun ds => ds.length ≤ sizeLine ∧ Nd.dnD gd t ta tb (wipeD (frz env) vs) ds [] Q) : Nd.dDn tid gd t ta tb vs env Q := q
theorem rEnum (q : td env fun d => (noOwn env = true ∨ d.noLst = true) ∧ ∃ ds, seqOf d = some ds ∧ L (enumD 0 ds)) : idEnum td env L := q
theorem rSeqI (q : td env fun d => (noOwn env = true ∨ d.noLst = true) ∧ ∃ ds, seqOf d = some ds ∧ L ds) : idSeq td env L := q
theorem rDrop (q : td env fun _ => Dd.nx env) : sDrop td Dd env := q
theorem rApp {xs : List D} (h : env[i]? = some (.own xs)) (q : td env fun d => d.noLst = true ∧ xs.length < sizeLine ∧ Dd.nx (env.set i (.own (xs ++ [d])))) : sApp i td Dd env := ⟨xs, h, q⟩
theorem rFor {tid : TID} {gd : TGD} (q : tid env fun ds => forD gd ss Dd ds env) : sFor tid gd ss Dd env := q
theorem rGdN {d : D} {P : DEnv → Prop} (q : P (env.set i (.val d))) : gdName i d env P := q
theorem rGdT {is : List Nat} {ds : List D} {P : DEnv → Prop} (h : ds.length = is.length) (q : P (putAll is ds env)) : gdTup is (.tup ds) env P := ⟨ds, rfl, h, q⟩
theorem rN1 {p q : Prop} (k : q) : if (!true) = true then p else q := k
theorem rX3 {p q : Prop} (k : q) : if xr true true = true then p else q := k
theorem rVarI {d : D} {ds : List D} (h1 : env[i]? = some (.val d)) (h2 : seqOf d = some ds) (q : L ds) : idVar i env L := ⟨d, ds, h1, h2, q⟩
theorem rRng {Q1 : List D → Prop} (q : tr env fun xs => ∃ j : Int, xs = [.int j] ∧ (-(2 ^ 62) ≤ j ∧ j < 2 ^ 62) ∧ Q1 (rngD 0 j.toNat)) : idRng1 tr env Q1 := q
end
end Rd

namespace K65
open PySem PySem.Spec PyProof.Rows L2 Dl Ns Zs Rk
def exc0 (K : PySem.W.Frag) (c : Str) : Exc := ⟨He.ga K c, none⟩
abbrev tLt (a b : List Int) : Prop := HT.lexLt a b = true
def keys3 (ns : List Int) (c : Int) (ms : List Int) : List (List Int) := List.zipWith (fun a b => if a < c then [0, a, b] else [1, b, a]) ns ms
def overAsk (K : PySem.W.Frag) (one cut other : D) (Q : List Int → Int → List Int → Prop) (E : Exc → Prop) : Prop :=
  stdAsk K one .non (fun ns => cut.tyn.isSome = true ∧ if isWh cut (.int 0) (.int (topI ns + 1)) = true then stdAsk K other .non (fun ms => if ns.length = ms.length then ∀ c, cut = .int c → Q ns c ms else E (exc0 K "OtherPlaces")) E else E (exc0 K "BadCut")) E
def C_check_over (K : PySem.W.Frag) : Ct := fun ds Q E => ∃ one cut other, ds = [one, cut, other] ∧ overAsk K one cut other (fun _ _ _ => Q .non) E
theorem ar_check_over (K : PySem.W.Frag) : Ar 3 (C_check_over K) := fun _ _ _ ⟨_, _, _, e, _⟩ => by rw [e]; rfl
def C_sorted_over (K : PySem.W.Frag) : Ct := fun ds Q E => ∃ one cut other, ds = [one, cut, other] ∧ overAsk K one cut other (fun ns c ms => ∀ rs, Rks tLt (keys3 ns c ms) rs → Q (tupI rs)) E
theorem ar_sorted_over (K : PySem.W.Frag) : Ar 3 (C_sorted_over K) := fun _ _ _ ⟨_, _, _, e, _⟩ => by rw [e]; rfl
def C_standing_of (K : PySem.W.Frag) : Ct := fun ds Q _ => ∃ ks : List (List Int), ds = [.lst (ks.map tupI)] ∧ ks.length < 64 ∧ (∀ k ∈ ks, k ≠ []) ∧ ∀ rs, Rks tLt ks rs → Q (tupI rs)
theorem ar_standing_of (K : PySem.W.Frag) : Ar 1 (C_standing_of K) := fun _ _ _ ⟨_, e, _⟩ => by rw [e]; rfl
def C__sorting_of (K : PySem.W.Frag) : Ct := fun ds Q _ => ∃ x y c ns ms, ds = [x, .int c, y] ∧ isSeqI x ns ∧ isSeqI y ms ∧ ns.length = ms.length ∧ ns.length < 64 ∧ ∀ rs, Rks tLt (keys3 ns c ms) rs → Q (tupI rs)
theorem ar__sorting_of (K : PySem.W.Frag) : Ar 3 (C__sorting_of K) := fun _ _ _ ⟨_, _, _, _, _, e, _⟩ => by rw [e]; rfl
def C__law_ranks (K : PySem.W.Frag) : Ct := fun ds Q _ => ∃ x, ds = [x] ∧ ((∃ ns : List Int, isSeqI x ns ∧ ns.length < 64 ∧ ∀ rs, Rks (fun a b : Int => a < b) ns rs → Q (tupI rs)) ∨
  ∃ ks : List (List Int), x = .lst (ks.map tupI) ∧ ks.length < 64 ∧ (∀ k ∈ ks, k ≠ []) ∧ ∀ rs, Rks tLt ks rs → Q (tupI rs))
theorem ar__law_ranks (K : PySem.W.Frag) : Ar 1 (C__law_ranks K) := fun _ _ _ ⟨_, e, _⟩ => by rw [e]; rfl
def C__law_standings (K : PySem.W.Frag) : Ct := fun ds Q _ => ∃ k : Nat, ds = [.int k] ∧ 1 ≤ k ∧ k ≤ 5 ∧ ∀ Ls : List (List Int), (∀ d, d ∈ Ls ↔ d.length = k ∧ StdR d) → Ls.length ≤ 3125 → Q (.lst (Ls.map tupI))
theorem ar__law_standings (K : PySem.W.Frag) : Ar 1 (C__law_standings K) := fun _ _ _ ⟨_, e, _⟩ => by rw [e]; rfl
def C__law_standing (K : PySem.W.Frag) (hd : Addr) : Ct := fun ds Q _ => ∃ k : Nat, ds = [.ref hd, .int k] ∧ k ≤ 7 ∧ ∀ rs, StdR rs → rs.length = k → Q (tupI rs)
theorem ar__law_standing {K : PySem.W.Frag} (hd : Addr) : Ar 2 (C__law_standing K hd) := fun _ _ _ ⟨_, e, _⟩ => by rw [e]; rfl
def turnedI (ns : List Int) : List Int := ns.map fun n => topI ns - n
def C__law_turned (K : PySem.W.Frag) : Ct := fun ds Q _ => ∃ ns, ds = [tupI ns] ∧ (∀ n ∈ ns, 0 ≤ n) ∧ ns.length ≤ 7 ∧ Q (tupI (turnedI ns))
theorem ar__law_turned (K : PySem.W.Frag) : Ar 1 (C__law_turned K) := fun _ _ _ ⟨_, e, _⟩ => by rw [e]; rfl
structure RuleT where
  prem : List (Int × Int)
  fin : Option (Int × Int)
def coupD (p : Int × Int) : D := tupI [p.1, p.2]
def finD : Option (Int × Int) → D
  | none => .tup [.str "never"]
  | some p => .tup [.str "not after", .int p.1, .int p.2]
def ruleD (r : RuleT) : D := .tup [.tup (r.prem.map coupD), finD r.fin]
def inP (n : Nat) (p : Int × Int) : Prop := (0 ≤ p.1 ∧ p.1 < n) ∧ 0 ≤ p.2 ∧ p.2 < n
def inN (n : Nat) (r : RuleT) : Prop := (∀ p ∈ r.prem, inP n p) ∧ ∀ p, r.fin = some p → inP n p
def at_ (d : List Int) (i : Int) : Int := d.getD i.toNat 0
def keepsB (r : RuleT) (d : List Int) : Bool := (r.prem.any fun p => !decide (at_ d p.1 = at_ d p.2)) || match r.fin with
  | none => false
  | some p => decide (at_ d p.1 ≤ at_ d p.2)
def C__law_keeps (K : PySem.W.Frag) : Ct := fun ds Q _ => ∃ r d, ds = [ruleD r, tupI d] ∧ inN d.length r ∧ Q (.bl (keepsB r d))
theorem ar__law_keeps (K : PySem.W.Frag) : Ar 2 (C__law_keeps K) := fun _ _ _ ⟨_, _, e, _⟩ => by rw [e]; rfl
def C__law_keep_all (K : PySem.W.Frag) : Ct := fun ds Q _ => ∃ (rs : List RuleT) (d : List Int), ds = [.lst (rs.map ruleD), tupI d] ∧ (∀ r ∈ rs, inN d.length r) ∧ Q (.bl (rs.all fun r => keepsB r d))
theorem ar__law_keep_all (K : PySem.W.Frag) : Ar 2 (C__law_keep_all K) := fun _ _ _ ⟨_, _, e, _⟩ => by rw [e]; rfl
def C__law_rule (K : PySem.W.Frag) (hd : Addr) : Ct := fun ds Q _ => ∃ n : Nat, ds = [.ref hd, .int n] ∧ 1 ≤ n ∧ n ≤ 5 ∧ ∀ r, inN n r → r.prem.length ≤ 4 → Q (ruleD r)
theorem ar__law_rule {K : PySem.W.Frag} (hd : Addr) : Ar 2 (C__law_rule K hd) := fun _ _ _ ⟨_, e, _⟩ => by rw [e]; rfl
def C__law_rules (K : PySem.W.Frag) (hd : Addr) : Ct := fun ds Q _ => ∃ n : Nat, ds = [.ref hd, .int n, .int 8] ∧ 1 ≤ n ∧ n ≤ 5 ∧ ∀ rs : List RuleT, (∀ r ∈ rs, inN n r) → rs.length ≤ 20 → Q (.lst (rs.map ruleD))
theorem ar__law_rules {K : PySem.W.Frag} (hd : Addr) : Ar 3 (C__law_rules K hd) := fun _ _ _ ⟨_, e, _⟩ => by rw [e]; rfl
def C__law_sorted (K : PySem.W.Frag) : Ct := fun ds Q _ => ∃ ns c ms, ds = [tupI ns, .int c, tupI ms] ∧ ns.length = ms.length ∧ ns.length < 64 ∧ ∀ rs, Rks tLt (keys3 ns c ms) rs → Q (tupI rs)
theorem ar__law_sorted (K : PySem.W.Frag) : Ar 3 (C__law_sorted K) := fun _ _ _ ⟨_, _, _, e, _⟩ => by rw [e]; rfl
def C__law_plain (K : PySem.W.Frag) : Ct := fun ds Q _ => ∃ (rs : List Int) (n : Int), ds = [tupI rs, .int n] ∧ rs.length < 64 ∧ Q (.bl (decide ((rs.length : Int) = n)))
theorem ar__law_plain (K : PySem.W.Frag) : Ar 2 (C__law_plain K) := fun _ _ _ ⟨_, _, e, _⟩ => by rw [e]; rfl
def wordOf (K : PySem.W.Frag) (Q : D → Prop) (x : Exc) : Prop := (∃ i, x = excI K "BadStanding" i ∧ Q (.tup [.str "standing", .int i])) ∨ (x = exc0 K "BadCut" ∧ Q (.str "cut")) ∨ (x = exc0 K "OtherPlaces" ∧ Q (.str "places"))
def C__law_word (K : PySem.W.Frag) : Ct := fun ds Q _ => ∃ one cut other, ds = [one, cut, other] ∧ overAsk K one cut other (fun _ _ _ => Q (.str "good")) (wordOf K Q)
theorem ar__law_word (K : PySem.W.Frag) : Ar 3 (C__law_word K) := fun _ _ _ ⟨_, _, _, e, _⟩ => by rw [e]; rfl
structure Xs (K : PySem.W.Frag) : Prop where
  ss : PySem.W.exmOne K (.ref (He.ga K "BadStanding")) (.ref (He.ga K "BadStanding")) = some true
  cs : PySem.W.exmOne K (.ref (He.ga K "BadCut")) (.ref (He.ga K "BadStanding")) = some false
  cc : PySem.W.exmOne K (.ref (He.ga K "BadCut")) (.ref (He.ga K "BadCut")) = some true
  os : PySem.W.exmOne K (.ref (He.ga K "OtherPlaces")) (.ref (He.ga K "BadStanding")) = some false
  oc : PySem.W.exmOne K (.ref (He.ga K "OtherPlaces")) (.ref (He.ga K "BadCut")) = some false
  oo : PySem.W.exmOne K (.ref (He.ga K "OtherPlaces")) (.ref (He.ga K "OtherPlaces")) = some true
  xf : XfC K (He.ga K "BadStanding")
  ix : PySem.W.findIn K (.ref (He.ga K "BadStanding")) "index" = some none
end K65

namespace K65
open PySem PySem.Spec PyProof.Rows L2 Dl Ns Zs Rk
def top (i : Nat) : Stmt := PySem.Challenge.pw_earliestlots_k65_whole_datings_sorted_ov.main.body.getD i (.Pass ⟨0, 0, 0, 0⟩)
structure Tf (K : PySem.W.Frag) (mg : Str → Option Value) : Prop where
  n_abs : mg "abs" = none
  n_all : mg "all" = none
  n_bool : mg "bool" = none
  n_enumerate : mg "enumerate" = none
  n_int : mg "int" = none
  n_isinstance : mg "isinstance" = none
  n_len : mg "len" = none
  n_list : mg "list" = none
  n_max : mg "max" = none
  n_range : mg "range" = none
  n_set : mg "set" = none
  n_sorted : mg "sorted" = none
  n_tuple : mg "tuple" = none
  n_zip : mg "zip" = none
  g_BadCut : mg "BadCut" = some (.ref (He.ga K "BadCut"))
  g_BadStanding : mg "BadStanding" = some (.ref (He.ga K "BadStanding"))
  g_OtherPlaces : mg "OtherPlaces" = some (.ref (He.ga K "OtherPlaces"))
  i_MOST_PLACES : ∃ t, mg "MOST_PLACES" = some (.int (7) t)
abbrev s_is_whole : Stmt := top 7
abbrev N_is_whole : List Str := ["thing", "low", "high"]
theorem sc_is_whole : FnScope N_is_whole ["thing", "low", "high"] (defScope s_is_whole) := ⟨rfl, rfl, rfl, by decide +kernel, rfl, by decide +kernel, by decide +kernel⟩
def d_is_whole (K : PySem.W.Frag) (Ed : DEnv → Exc → Prop) : TSD := sSeq (sIf (dOr (dB (dCB bIsi (dCons (dVar 0) (dCons (dC (.ty "bool")) (dNil))))) (dNot (dB (dCB bIsi (dCons (dVar 0) (dCons (dC (.ty "int")) (dNil))))))) (sRet (dC (.bl false))) (sNext)) (sRet (dAndV (dOrV (dOp (fIs false) (dVar 1) (dC .non)) (dOp fGe (dVar 0) (dVar 1))) (dOrV (dOp (fIs false) (dVar 2) (dC .non)) (dOp fLe (dVar 0) (dVar 2)))))
theorem pd_is_whole {P : Program} {w : World} {K : PySem.W.Frag} {mg : Str → Option Value} {base : Heap} {I : HI} {fa : Addr} {cdv : Value} {A : Around} {outer : List Env} {s : Shared} {H : Hp} {E : XK} {Ed : Exc → Prop} (T : Tf K mg) 
    (hr : Room 1 (A.deeper (envOfC "is_whole" (defScope s_is_whole) s.heap.objs.size fa cdv))) (tk : Takes (cxD P w K mg base N_is_whole "is_whole" (defScope s_is_whole) fa cdv A outer s H E) (gOf I Ed E).W) :
    PSsD (cxD P w K mg base N_is_whole "is_whole" (defScope s_is_whole) fa cdv A outer s H E) (gOf I Ed E) (defBody s_is_whole) (d_is_whole K (gOf I Ed E).Ed) :=
  have nd := sc_is_whole.nd; ds_cons (ds_if (PWD.pt (dt_or (dt_val (d_callB c_isi rfl T.n_isinstance boot_isinstance (da_cons (dv 0) (da_cons (d_ty rfl T.n_bool boot_bool) (da_nil))))) (dt_or1 (dt_not (dt_val (d_callB c_isi rfl T.n_isinstance boot_isinstance (da_cons (dv 0) (da_cons (d_ty rfl T.n_int boot_int) (da_nil))))))))) (ds_one (ds_ret (d_bl))) (ds_nil)) (ds_one (ds_ret (d_and (d_or (d_cmp r_is (dv 1) (d_non) (nomark _)) (d_one (d_cmp r_ge (dv 0) (dv 1) (nomark _)))) (d_one (d_or (d_cmp r_is (dv 2) (d_non) (nomark _)) (d_one (d_cmp r_le (dv 0) (dv 2) (nomark _))))))))
abbrev s_check_standing : Stmt := top 8
abbrev N_check_standing : List Str := ["ranks", "places", "index", "rank"]
theorem sc_check_standing : FnScope N_check_standing ["ranks", "places"] (defScope s_check_standing) := ⟨rfl, rfl, rfl, by decide +kernel, rfl, by decide +kernel, by decide +kernel⟩
def d_check_standing (K : PySem.W.Frag) (Ed : DEnv → Exc → Prop) : TSD := sSeq (sIf (dOr (dNot (dB (dCB bIsi (dCons (dVar 0) (dCons (dTup (dCons (dC (.ty "list")) (dCons (dC (.ty "tuple")) (dNil)))) (dNil)))))) (dTest (dOp fGt (dCB bLen (dCons (dVar 0) (dNil))) (dC (.int 7))))) (sRaise (He.ga K "BadStanding") "index" Ed (dUn (fUn fun i => -i) (dC (.int 1)))) (sNext)) (sSeq (sIf (dAnd (dTest (dOp (fIs true) (dVar 1) (dC .non))) (dTest (dOp (fEq true) (dCB bLen (dCons (dVar 0) (dNil))) (dVar 1)))) (sRaise (He.ga K "BadStanding") "index" Ed (dUn (fUn fun i => -i) (dC (.int 1)))) (sNext)) (sSeq (sFor (idEnumV 0) (gdTup [2, 3]) (sIf (dNot (dB (dCall ((C_is_whole K)) [.non] Ed (dCons (dVar 3) (dCons (dC (.int 0)) (dNil)))))) (sRaise (He.ga K "BadStanding") "index" Ed (dVar 2)) (sNext))) (sSeq (sIf (dTest (dOp (fEq true) (dLenZ (zSetI (dCons (dVar 0) (dNil)))) (dOp fAdd (dBest true (dCons (dVar 0) (dNil)) (dCons (dUn (fUn fun i => -i) (dC (.int 1))) dNil)) (dC (.int 1))))) (sRaise (He.ga K "BadStanding") "index" Ed (dUn (fUn fun i => -i) (dC (.int 1)))) (sNext)) (sRet (dCB bTup (dCons (dVar 0) (dNil)))))))
theorem pd_check_standing {P : Program} {w : World} {K : PySem.W.Frag} {mg : Str → Option Value} {base : Heap} {I : HI} {fa : Addr} {cdv : Value} {A : Around} {outer : List Env} {s : Shared} {H : Hp} {E : XK} {Ed : Exc → Prop} (T : Tf K mg) (c_is_whole_2 : Cl P w K mg base I 2 "is_whole" 3 (C_is_whole K) [.non]) (er_BadStanding : Er P w K mg base "BadStanding" "index")
    (hr : Room 2 (A.deeper (envOfC "check_standing" (defScope s_check_standing) s.heap.objs.size fa cdv))) (tk : Takes (cxD P w K mg base N_check_standing "check_standing" (defScope s_check_standing) fa cdv A outer s H E) (gOf I Ed E).W) :
    PSsD (cxD P w K mg base N_check_standing "check_standing" (defScope s_check_standing) fa cdv A outer s H E) (gOf I Ed E) (defBody s_check_standing) (d_check_standing K (gOf I Ed E).Ed) :=
  have nd := sc_check_standing.nd; ds_cons (ds_if (PWD.pt (dt_or (dt_not (dt_val (d_callB c_isi rfl T.n_isinstance boot_isinstance (da_cons (dv 0) (da_cons (d_tup (da_cons (d_ty rfl T.n_list boot_list) (da_cons (d_ty rfl T.n_tuple boot_tuple) (da_nil)))) (da_nil)))))) (dt_or1 (dt_cmp r_gt (d_callB c_len rfl T.n_len PySem.boot_len (da_cons (dv 0) (da_nil))) (d_gint rfl T.i_MOST_PLACES) (nomark _))))) (ds_one (ds_raiseC er_BadStanding rfl hr (by decide) rfl tk (d_neg (d_int)))) (ds_nil)) (ds_cons (ds_if (PWD.pt (dt_and (dt_cmp r_isnot (dv 1) (d_non) (nomark _)) (dt_and1 (dt_cmp (r_ne (h64 hr)) (d_callB c_len rfl T.n_len PySem.boot_len (da_cons (dv 0) (da_nil))) (dv 1) (nomark _))))) (ds_one (ds_raiseC er_BadStanding rfl hr (by decide) rfl tk (d_neg (d_int)))) (ds_nil)) (ds_cons (ds_for (passes_of rfl) rfl (di_enumV 0 rfl T.n_enumerate) (dg_tup (is := [2, 3]) rfl (pgs_cons (pg_name (i := 2) nd rfl (by first | exact Or.inl rfl | exact Or.inr rfl)) (pgs_cons (pg_name (i := 3) nd rfl (by first | exact Or.inl rfl | exact Or.inr rfl)) (pgs_nil)))) (ds_one (ds_if (dt_not (dt_val (d_callC c_is_whole_2 (ar_is_whole _) hr (by decide) rfl tk (da_cons (dv 3) (da_cons (d_int) (da_nil)))))) (ds_one (ds_raiseC er_BadStanding rfl hr (by decide) rfl tk (dv 2))) (ds_nil)))) (ds_cons (ds_if (dt_cmp (r_ne (h64 hr)) (d_lenZ rfl T.n_len (z_setI rfl rfl T.n_set (da_cons (dv 0) (da_nil)))) (d_op r_add (d_best true (h64 hr) rfl rfl T.n_max (da_cons (dv 0) (da_nil)) (dk_cons (d_neg (d_int)) dk_nil) boot_max) (d_int)) (nomark _)) (ds_one (ds_raiseC er_BadStanding rfl hr (by decide) rfl tk (d_neg (d_int)))) (ds_nil)) (ds_one (ds_ret (d_callTy c_tup rfl T.n_tuple boot_tuple (da_cons (dv 0) (da_nil))))))))
abbrev s_standing_of : Stmt := top 9
abbrev N_standing_of : List Str := ["keys", "ranks", "rank", "key"]
theorem sc_standing_of : FnScope N_standing_of ["keys"] (defScope s_standing_of) := ⟨rfl, rfl, rfl, by decide +kernel, rfl, by decide +kernel, by decide +kernel⟩
def d_standing_of (K : PySem.W.Frag) (Ed : DEnv → Exc → Prop) : TSD := sSeq (sAsg 1 (Nd.dDn (idEnum (dSortZ (zSet (dCons (dVar 0) (dNil))))) (gdTup [2, 3]) (dYes) (dVar 3) (dVar 2) (([("rank", 2), ("key", 3)] : List (Str × Nat)).map (·.2)))) (sRet (dCB bTup (dCons (dF (fLc (idVar 0) (gdName 3) (dYes) (Nd.dGetN (dVar 1) (dVar 3)) (([("key", 3)] : List (Str × Nat)).map (·.2)))) (dNil))))
theorem pd_standing_of {P : Program} {w : World} {K : PySem.W.Frag} {mg : Str → Option Value} {base : Heap} {I : HI} {fa : Addr} {cdv : Value} {A : Around} {outer : List Env} {s : Shared} {H : Hp} {E : XK} {Ed : Exc → Prop} (T : Tf K mg) 
    (hr : Room 1 (A.deeper (envOfC "standing_of" (defScope s_standing_of) s.heap.objs.size fa cdv))) (tk : Takes (cxD P w K mg base N_standing_of "standing_of" (defScope s_standing_of) fa cdv A outer s H E) (gOf I Ed E).W) :
    PSsD (cxD P w K mg base N_standing_of "standing_of" (defScope s_standing_of) fa cdv A outer s H E) (gOf I Ed E) (defBody s_standing_of) (d_standing_of K (gOf I Ed E).Ed) :=
  have nd := sc_standing_of.nd; ds_cons (ds_set (i := 1) nd rfl (by first | exact Or.inl rfl | exact Or.inr rfl) (Nd.d_dn (h64 hr) rfl nd (di_enum rfl T.n_enumerate (d_sortZ (h64 hr) rfl rfl T.n_sorted (z_set (h64 hr) rfl rfl T.n_set (da_cons (dv 0) (da_nil))))) (blkOk_by (own := [("rank", 2), ("key", 3)]) (N := N_standing_of) (sc := defScope s_standing_of) (by decide +kernel)) (fun _ _ _ _ _ => pg_tup (t := gNames [2, 3]) (n := 2) rfl (pgs_cons (pg_name (i := 2) nd rfl (by first | exact Or.inl rfl | exact Or.inr rfl)) (pgs_cons (pg_name (i := 3) nd rfl (by first | exact Or.inl rfl | exact Or.inr rfl)) (pgs_nil)))) (sg_tup (is := [2, 3])) (gw_tup (is := [2, 3]) (by decide)) bt_nil (be_of (fun _ _ _ _ _ => dv 3)) (be_of (fun _ _ _ _ _ => dv 2)))) (ds_one (ds_ret (d_callTy c_tup rfl T.n_tuple boot_tuple (da_cons (pf_e (f_lc rfl nd (di_var 0) (blkOk_by (own := [("key", 3)]) (N := N_standing_of) (sc := defScope s_standing_of) (by decide +kernel)) (fun _ _ _ _ _ => pg_name (i := 3) nd rfl (by first | exact Or.inl rfl | exact Or.inr rfl)) sg_name (gw_name (by decide)) bt_nil (be_of (fun _ _ _ _ _ => Nd.d_getN (h64 hr) (dv 1) (dv 3))))) (da_nil)))))
abbrev s_ranks_number : Stmt := top 10
abbrev N_ranks_number : List Str := ["standing"]
theorem sc_ranks_number : FnScope N_ranks_number ["standing"] (defScope s_ranks_number) := ⟨rfl, rfl, rfl, by decide +kernel, rfl, by decide +kernel, by decide +kernel⟩
def d_ranks_number (K : PySem.W.Frag) (Ed : DEnv → Exc → Prop) : TSD := sRet (dOp fAdd (dBest true (dCons (dCall ((C_check_standing K)) [.non] Ed (dCons (dVar 0) (dNil))) (dNil)) (dCons (dUn (fUn fun i => -i) (dC (.int 1))) dNil)) (dC (.int 1)))
theorem pd_ranks_number {P : Program} {w : World} {K : PySem.W.Frag} {mg : Str → Option Value} {base : Heap} {I : HI} {fa : Addr} {cdv : Value} {A : Around} {outer : List Env} {s : Shared} {H : Hp} {E : XK} {Ed : Exc → Prop} (T : Tf K mg) (c_check_standing_1 : Cl P w K mg base I 3 "check_standing" 2 (C_check_standing K) [.non])
    (hr : Room 3 (A.deeper (envOfC "ranks_number" (defScope s_ranks_number) s.heap.objs.size fa cdv))) (tk : Takes (cxD P w K mg base N_ranks_number "ranks_number" (defScope s_ranks_number) fa cdv A outer s H E) (gOf I Ed E).W) :
    PSsD (cxD P w K mg base N_ranks_number "ranks_number" (defScope s_ranks_number) fa cdv A outer s H E) (gOf I Ed E) (defBody s_ranks_number) (d_ranks_number K (gOf I Ed E).Ed) :=
  have nd := sc_ranks_number.nd; ds_one (ds_ret (d_op r_add (d_best true (h64 hr) rfl rfl T.n_max (da_cons (d_callC c_check_standing_1 (ar_check_standing _) hr (by decide) rfl tk (da_cons (dv 0) (da_nil))) (da_nil)) (dk_cons (d_neg (d_int)) dk_nil) boot_max) (d_int)))
abbrev s_check_over : Stmt := top 12
abbrev N_check_over : List Str := ["one", "cut", "other", "ranks"]
theorem sc_check_over : FnScope N_check_over ["one", "cut", "other"] (defScope s_check_over) := ⟨rfl, rfl, rfl, by decide +kernel, rfl, by decide +kernel, by decide +kernel⟩
def d_check_over (K : PySem.W.Frag) (Ed : DEnv → Exc → Prop) : TSD := sSeq (sAsg 3 (dCall ((C_ranks_number K)) [] Ed (dCons (dVar 0) (dNil)))) (sSeq (sIf (dNot (dB (dCall ((C_is_whole K)) [] Ed (dCons (dVar 1) (dCons (dC (.int 0)) (dCons (dVar 3) (dNil))))))) (sRaise0 (He.ga K "BadCut") Ed) (sNext)) (sSeq (sDrop (dCall ((C_check_standing K)) [.non] Ed (dCons (dVar 2) (dNil)))) (sIf (dTest (dOp (fEq true) (dCB bLen (dCons (dVar 0) (dNil))) (dCB bLen (dCons (dVar 2) (dNil))))) (sRaise0 (He.ga K "OtherPlaces") Ed) (sNext))))
theorem pd_check_over {P : Program} {w : World} {K : PySem.W.Frag} {mg : Str → Option Value} {base : Heap} {I : HI} {fa : Addr} {cdv : Value} {A : Around} {outer : List Env} {s : Shared} {H : Hp} {E : XK} {Ed : Exc → Prop} (T : Tf K mg) (c_check_standing_1 : Cl P w K mg base I 3 "check_standing" 2 (C_check_standing K) [.non]) (c_is_whole : Cl P w K mg base I 2 "is_whole" 3 (C_is_whole K) []) (c_ranks_number : Cl P w K mg base I 4 "ranks_number" 1 (C_ranks_number K) []) (eR_BadCut : Zs.ErR K mg "BadCut") (eR_OtherPlaces : Zs.ErR K mg "OtherPlaces")
    (hr : Room 4 (A.deeper (envOfC "check_over" (defScope s_check_over) s.heap.objs.size fa cdv))) (tk : Takes (cxD P w K mg base N_check_over "check_over" (defScope s_check_over) fa cdv A outer s H E) (gOf I Ed E).W) :
    PSsD (cxD P w K mg base N_check_over "check_over" (defScope s_check_over) fa cdv A outer s H E) (gOf I Ed E) (defBody s_check_over) (d_check_over K (gOf I Ed E).Ed) :=
  have nd := sc_check_over.nd; ds_cons (ds_set (i := 3) nd rfl (by first | exact Or.inl rfl | exact Or.inr rfl) (d_callC c_ranks_number (ar_ranks_number _) hr (by decide) rfl tk (da_cons (dv 0) (da_nil)))) (ds_cons (ds_if (dt_not (dt_val (d_callC c_is_whole (ar_is_whole _) hr (by decide) rfl tk (da_cons (dv 1) (da_cons (d_int) (da_cons (dv 3) (da_nil))))))) (ds_one (ds_raise0 (x := "BadCut") eR_BadCut rfl tk rfl)) (ds_nil)) (ds_cons (ds_expr (d_callC c_check_standing_1 (ar_check_standing _) hr (by decide) rfl tk (da_cons (dv 2) (da_nil)))) (ds_one (ds_if (dt_cmp (r_ne (h64 hr)) (d_callB c_len rfl T.n_len PySem.boot_len (da_cons (dv 0) (da_nil))) (d_callB c_len rfl T.n_len PySem.boot_len (da_cons (dv 2) (da_nil))) (nomark _)) (ds_one (ds_raise0 (x := "OtherPlaces") eR_OtherPlaces rfl tk rfl)) (ds_nil)))))
abbrev s__sorting_of : Stmt := top 15
abbrev N__sorting_of : List Str := ["one", "cut", "other", "rank", "beside"]
theorem sc__sorting_of : FnScope N__sorting_of ["one", "cut", "other"] (defScope s__sorting_of) := ⟨rfl, rfl, rfl, by decide +kernel, rfl, by decide +kernel, by decide +kernel⟩
def d__sorting_of (K : PySem.W.Frag) (Ed : DEnv → Exc → Prop) : TSD := sRet (dCall ((C_standing_of K)) [] Ed (dCons (dF (fLc (Zz.idZipV 0 2) (gdTup [3, 4]) (dYes) (dIf (dTest (dOp fLt (dVar 3) (dVar 1))) (dTup (dCons (dC (.int 0)) (dCons (dVar 3) (dCons (dVar 4) (dNil))))) (dTup (dCons (dC (.int 1)) (dCons (dVar 4) (dCons (dVar 3) (dNil)))))) (([("rank", 3), ("beside", 4)] : List (Str × Nat)).map (·.2)))) (dNil)))
theorem pd__sorting_of {P : Program} {w : World} {K : PySem.W.Frag} {mg : Str → Option Value} {base : Heap} {I : HI} {fa : Addr} {cdv : Value} {A : Around} {outer : List Env} {s : Shared} {H : Hp} {E : XK} {Ed : Exc → Prop} (T : Tf K mg) (c_standing_of : Cl P w K mg base I 2 "standing_of" 1 (C_standing_of K) [])
    (hr : Room 2 (A.deeper (envOfC "_sorting_of" (defScope s__sorting_of) s.heap.objs.size fa cdv))) (tk : Takes (cxD P w K mg base N__sorting_of "_sorting_of" (defScope s__sorting_of) fa cdv A outer s H E) (gOf I Ed E).W) :
    PSsD (cxD P w K mg base N__sorting_of "_sorting_of" (defScope s__sorting_of) fa cdv A outer s H E) (gOf I Ed E) (defBody s__sorting_of) (d__sorting_of K (gOf I Ed E).Ed) :=
  have nd := sc__sorting_of.nd; ds_one (ds_ret (d_callC c_standing_of (ar_standing_of _) hr (by decide) rfl tk (da_cons (pf_e (f_lc rfl nd (Zz.di_zipV 0 2 rfl T.n_zip) (blkOk_by (own := [("rank", 3), ("beside", 4)]) (N := N__sorting_of) (sc := defScope s__sorting_of) (by decide +kernel)) (fun _ _ _ _ _ => pg_tup (t := gNames [3, 4]) (n := 2) rfl (pgs_cons (pg_name (i := 3) nd rfl (by first | exact Or.inl rfl | exact Or.inr rfl)) (pgs_cons (pg_name (i := 4) nd rfl (by first | exact Or.inl rfl | exact Or.inr rfl)) (pgs_nil)))) (sg_tup (is := [3, 4])) (gw_tup (is := [3, 4]) (by decide)) bt_nil (be_of (fun _ _ _ _ _ => d_ifExp (dt_cmp (r_lt hr.units0) (dv 3) (dv 1) (nomark _)) (d_tup (da_cons (d_int) (da_cons (dv 3) (da_cons (dv 4) (da_nil))))) (d_tup (da_cons (d_int) (da_cons (dv 4) (da_cons (dv 3) (da_nil))))))))) (da_nil))))
abbrev s_sorted_over : Stmt := top 14
abbrev N_sorted_over : List Str := ["one", "cut", "other"]
theorem sc_sorted_over : FnScope N_sorted_over ["one", "cut", "other"] (defScope s_sorted_over) := ⟨rfl, rfl, rfl, by decide +kernel, rfl, by decide +kernel, by decide +kernel⟩
def d_sorted_over (K : PySem.W.Frag) (Ed : DEnv → Exc → Prop) : TSD := sSeq (sDrop (dCall ((C_check_over K)) [] Ed (dCons (dVar 0) (dCons (dVar 1) (dCons (dVar 2) (dNil)))))) (sRet (dCall ((C__sorting_of K)) [] Ed (dCons (dVar 0) (dCons (dVar 1) (dCons (dVar 2) (dNil))))))
theorem pd_sorted_over {P : Program} {w : World} {K : PySem.W.Frag} {mg : Str → Option Value} {base : Heap} {I : HI} {fa : Addr} {cdv : Value} {A : Around} {outer : List Env} {s : Shared} {H : Hp} {E : XK} {Ed : Exc → Prop} (T : Tf K mg) (c__sorting_of : Cl P w K mg base I 3 "_sorting_of" 3 (C__sorting_of K) []) (c_check_over : Cl P w K mg base I 5 "check_over" 3 (C_check_over K) [])
    (hr : Room 5 (A.deeper (envOfC "sorted_over" (defScope s_sorted_over) s.heap.objs.size fa cdv))) (tk : Takes (cxD P w K mg base N_sorted_over "sorted_over" (defScope s_sorted_over) fa cdv A outer s H E) (gOf I Ed E).W) :
    PSsD (cxD P w K mg base N_sorted_over "sorted_over" (defScope s_sorted_over) fa cdv A outer s H E) (gOf I Ed E) (defBody s_sorted_over) (d_sorted_over K (gOf I Ed E).Ed) :=
  have nd := sc_sorted_over.nd; ds_cons (ds_expr (d_callC c_check_over (ar_check_over _) hr (by decide) rfl tk (da_cons (dv 0) (da_cons (dv 1) (da_cons (dv 2) (da_nil)))))) (ds_one (ds_ret (d_callC c__sorting_of (ar__sorting_of _) hr (by decide) rfl tk (da_cons (dv 0) (da_cons (dv 1) (da_cons (dv 2) (da_nil)))))))
abbrev s__law_hand : Stmt := top 17
abbrev N__law_hand : List Str := ["_law_script", "_law_total", "_law_cells", "_law_cell"]
theorem sc__law_hand : FnScope N__law_hand ["_law_script"] (defScope s__law_hand) := ⟨rfl, rfl, rfl, by decide +kernel, rfl, by decide +kernel, by decide +kernel⟩
def d__law_hand (K : PySem.W.Frag) (Ed : DEnv → Exc → Prop) : TSD := sSeq (sAsg 1 (dOp fAdd (dCB bLenS (dCons (dVar 0) (dNil))) (dC (.int 43)))) (sSeq (sNew 2 (fLst (dNil))) (sSeq (sFor (idVarS 0) (gdName 3) (sSeq (sAsg 1 (dOp fMod (dCB bInt (dCons (dOp fAdd (dOp fMul (dVar 1) (dC (.int 2003))) (dCB bInt (dCons (dVar 3) (dNil)))) (dNil))) (dC (.int 2147483563)))) (sApp 2 (dCB bAbs (dCons (dCB bInt (dCons (dVar 3) (dNil))) (dNil)))))) (sRet (dLst (dCons (dVar 2) (dCons (dC (.int 0)) (dCons (dC (.int 0)) (dCons (dVar 1) (dNil)))))))))
theorem pd__law_hand {P : Program} {w : World} {K : PySem.W.Frag} {mg : Str → Option Value} {base : Heap} {I : HI} {fa : Addr} {cdv : Value} {A : Around} {outer : List Env} {s : Shared} {H : Hp} {E : XK} {Ed : Exc → Prop} (T : Tf K mg) 
    (hr : Room 1 (A.deeper (envOfC "_law_hand" (defScope s__law_hand) s.heap.objs.size fa cdv))) (tk : Takes (cxD P w K mg base N__law_hand "_law_hand" (defScope s__law_hand) fa cdv A outer s H E) (gOf I Ed E).W) :
    PSsD (cxD P w K mg base N__law_hand "_law_hand" (defScope s__law_hand) fa cdv A outer s H E) (gOf I Ed E) (defBody s__law_hand) (d__law_hand K (gOf I Ed E).Ed) :=
  have nd := sc__law_hand.nd; ds_cons (ds_set (i := 1) nd rfl (by first | exact Or.inl rfl | exact Or.inr rfl) (d_op r_add (d_callB c_lenS rfl T.n_len PySem.boot_len (da_cons (dv 0) (da_nil))) (d_int))) (ds_cons (ds_new (i := 2) nd rfl (by first | exact Or.inl rfl | exact Or.inr rfl) (f_lst (da_nil))) (ds_cons (ds_for (passes_of rfl) rfl (di_varS 0) (dg_name (i := 3) nd rfl (by first | exact Or.inl rfl | exact Or.inr rfl)) (ds_cons (ds_set (i := 1) nd rfl (by first | exact Or.inl rfl | exact Or.inr rfl) (d_op r_mod (d_callTy c_int rfl T.n_int boot_int (da_cons (d_op r_add (d_op r_mul (dv 1) (d_int)) (d_callTy c_int rfl T.n_int boot_int (da_cons (dv 3) (da_nil)))) (da_nil))) (d_int))) (ds_one (ds_app (i := 2) rfl (by first | exact Or.inl rfl | exact Or.inr (Or.inl rfl)) (d_callB c_abs rfl T.n_abs boot_abs (da_cons (d_callTy c_int rfl T.n_int boot_int (da_cons (dv 3) (da_nil))) (da_nil))))))) (ds_one (ds_ret (d_lst (da_cons (dv 2) (da_cons (d_int) (da_cons (d_int) (da_cons (dv 1) (da_nil))))))))))
abbrev s__law_mixed : Stmt := top 18
abbrev N__law_mixed : List Str := ["_law_number", "_law_turn", "_law_once", "_law_twice"]
theorem sc__law_mixed : FnScope N__law_mixed ["_law_number", "_law_turn"] (defScope s__law_mixed) := ⟨rfl, rfl, rfl, by decide +kernel, rfl, by decide +kernel, by decide +kernel⟩
def d__law_mixed (K : PySem.W.Frag) (Ed : DEnv → Exc → Prop) : TSD := sSeq (sAsg 2 (dOp fMod (dCB bInt (dCons (dOp fAdd (dOp fAdd (dOp fMul (dVar 0) (dC (.int 39373))) (dOp fMul (dVar 1) (dC (.int 6151)))) (dC (.int 50021))) (dNil))) (dC (.int 2147483399)))) (sSeq (sAsg 3 (dOp fMod (dCB bInt (dCons (dOp fAdd (dOp fAdd (dOp fMul (dVar 2) (dVar 2)) (dOp fMul (dVar 1) (dC (.int 81071)))) (dOp fDiv (dVar 2) (dC (.int 137)))) (dNil))) (dC (.int 2147483629)))) (sRet (dOp fDiv (dCB bInt (dCons (dOp fMod (dCB bInt (dCons (dOp fAdd (dOp fMul (dVar 3) (dC (.int 62089))) (dOp fDiv (dVar 2) (dC (.int 11)))) (dNil))) (dC (.int 2147483587))) (dNil))) (dC (.int 64)))))
theorem pd__law_mixed {P : Program} {w : World} {K : PySem.W.Frag} {mg : Str → Option Value} {base : Heap} {I : HI} {fa : Addr} {cdv : Value} {A : Around} {outer : List Env} {s : Shared} {H : Hp} {E : XK} {Ed : Exc → Prop} (T : Tf K mg) 
    (hr : Room 1 (A.deeper (envOfC "_law_mixed" (defScope s__law_mixed) s.heap.objs.size fa cdv))) (tk : Takes (cxD P w K mg base N__law_mixed "_law_mixed" (defScope s__law_mixed) fa cdv A outer s H E) (gOf I Ed E).W) :
    PSsD (cxD P w K mg base N__law_mixed "_law_mixed" (defScope s__law_mixed) fa cdv A outer s H E) (gOf I Ed E) (defBody s__law_mixed) (d__law_mixed K (gOf I Ed E).Ed) :=
  have nd := sc__law_mixed.nd; ds_cons (ds_set (i := 2) nd rfl (by first | exact Or.inl rfl | exact Or.inr rfl) (d_op r_mod (d_callTy c_int rfl T.n_int boot_int (da_cons (d_op r_add (d_op r_add (d_op r_mul (dv 0) (d_int)) (d_op r_mul (dv 1) (d_int))) (d_int)) (da_nil))) (d_int))) (ds_cons (ds_set (i := 3) nd rfl (by first | exact Or.inl rfl | exact Or.inr rfl) (d_op r_mod (d_callTy c_int rfl T.n_int boot_int (da_cons (d_op r_add (d_op r_add (d_op r_mul (dv 2) (dv 2)) (d_op r_mul (dv 1) (d_int))) (d_op r_div (dv 2) (d_int))) (da_nil))) (d_int))) (ds_one (ds_ret (d_op r_div (d_callTy c_int rfl T.n_int boot_int (da_cons (d_op r_mod (d_callTy c_int rfl T.n_int boot_int (da_cons (d_op r_add (d_op r_mul (dv 3) (d_int)) (d_op r_div (dv 2) (d_int))) (da_nil))) (d_int)) (da_nil))) (d_int)))))
abbrev s__law_whole : Stmt := top 20
abbrev N__law_whole : List Str := ["_law_thing"]
theorem sc__law_whole : FnScope N__law_whole ["_law_thing"] (defScope s__law_whole) := ⟨rfl, rfl, rfl, by decide +kernel, rfl, by decide +kernel, by decide +kernel⟩
def d__law_whole (K : PySem.W.Frag) (Ed : DEnv → Exc → Prop) : TSD := sRet (dAndV (dCB bIsi (dCons (dVar 0) (dCons (dC (.ty "int")) (dNil)))) (dNotV (dCB bIsi (dCons (dVar 0) (dCons (dC (.ty "bool")) (dNil))))))
theorem pd__law_whole {P : Program} {w : World} {K : PySem.W.Frag} {mg : Str → Option Value} {base : Heap} {I : HI} {fa : Addr} {cdv : Value} {A : Around} {outer : List Env} {s : Shared} {H : Hp} {E : XK} {Ed : Exc → Prop} (T : Tf K mg) 
    (hr : Room 1 (A.deeper (envOfC "_law_whole" (defScope s__law_whole) s.heap.objs.size fa cdv))) (tk : Takes (cxD P w K mg base N__law_whole "_law_whole" (defScope s__law_whole) fa cdv A outer s H E) (gOf I Ed E).W) :
    PSsD (cxD P w K mg base N__law_whole "_law_whole" (defScope s__law_whole) fa cdv A outer s H E) (gOf I Ed E) (defBody s__law_whole) (d__law_whole K (gOf I Ed E).Ed) :=
  have nd := sc__law_whole.nd; ds_one (ds_ret (d_and (d_callB c_isi rfl T.n_isinstance boot_isinstance (da_cons (dv 0) (da_cons (d_ty rfl T.n_int boot_int) (da_nil)))) (d_one (d_not (d_callB c_isi rfl T.n_isinstance boot_isinstance (da_cons (dv 0) (da_cons (d_ty rfl T.n_bool boot_bool) (da_nil))))))))
abbrev s__law_ranks : Stmt := top 21
abbrev N__law_ranks : List Str := ["_law_keys", "_law_unlike", "_law_key"]
theorem sc__law_ranks : FnScope N__law_ranks ["_law_keys"] (defScope s__law_ranks) := ⟨rfl, rfl, rfl, by decide +kernel, rfl, by decide +kernel, by decide +kernel⟩
def d__law_ranks (K : PySem.W.Frag) (Ed : DEnv → Exc → Prop) : TSD := sSeq (sAsg 1 (Sl.dOrE (dSortI (zSetI (dCons (dVar 0) (dNil)))) (dSortZ (zSet (dCons (dVar 0) (dNil)))))) (sRet (dCB bTup (dCons (dF (fLc (idVar 0) (gdName 2) (dYes) (dIndex (dVar 1) (dVar 2)) (([("_law_key", 2)] : List (Str × Nat)).map (·.2)))) (dNil))))
theorem pd__law_ranks {P : Program} {w : World} {K : PySem.W.Frag} {mg : Str → Option Value} {base : Heap} {I : HI} {fa : Addr} {cdv : Value} {A : Around} {outer : List Env} {s : Shared} {H : Hp} {E : XK} {Ed : Exc → Prop} (T : Tf K mg) 
    (hr : Room 1 (A.deeper (envOfC "_law_ranks" (defScope s__law_ranks) s.heap.objs.size fa cdv))) (tk : Takes (cxD P w K mg base N__law_ranks "_law_ranks" (defScope s__law_ranks) fa cdv A outer s H E) (gOf I Ed E).W) :
    PSsD (cxD P w K mg base N__law_ranks "_law_ranks" (defScope s__law_ranks) fa cdv A outer s H E) (gOf I Ed E) (defBody s__law_ranks) (d__law_ranks K (gOf I Ed E).Ed) :=
  have nd := sc__law_ranks.nd; ds_cons (ds_set (i := 1) nd rfl (by first | exact Or.inl rfl | exact Or.inr rfl) (Sl.d_orE (d_sortI rfl rfl T.n_sorted (z_setI rfl rfl T.n_set (da_cons (dv 0) (da_nil)))) (d_sortZ (h64 hr) rfl rfl T.n_sorted (z_set (h64 hr) rfl rfl T.n_set (da_cons (dv 0) (da_nil)))))) (ds_one (ds_ret (d_callTy c_tup rfl T.n_tuple boot_tuple (da_cons (pf_e (f_lc rfl nd (di_var 0) (blkOk_by (own := [("_law_key", 2)]) (N := N__law_ranks) (sc := defScope s__law_ranks) (by decide +kernel)) (fun _ _ _ _ _ => pg_name (i := 2) nd rfl (by first | exact Or.inl rfl | exact Or.inr rfl)) sg_name (gw_name (by decide)) bt_nil (be_of (fun _ _ _ _ _ => d_index (h65 hr) (dv 1) (dv 2))))) (da_nil)))))
abbrev s__law_standings : Stmt := top 22
abbrev N__law_standings : List Str := ["_law_k", "_law_told", "_law_left", "_law_longer", "_law_ranks_here", "_law_rank"]
theorem sc__law_standings : FnScope N__law_standings ["_law_k"] (defScope s__law_standings) := ⟨rfl, rfl, rfl, by decide +kernel, rfl, by decide +kernel, by decide +kernel⟩
def d__law_standings (K : PySem.W.Frag) (Ed : DEnv → Exc → Prop) : TSD := sSeq (sNew 1 (fLst (dCons (dTup (dNil)) (dNil)))) (sSeq (sFor (idRng1 (dCons (dVar 0) (dNil))) (gdName 2) (sSeq (sNew 3 (fLst (dNil))) (sSeq (sFrz 1 (sFor (idVar 1) (gdName 4) (sFor (idRng1 (dCons (dVar 0) (dNil))) (gdName 5) (sApp 3 (dOp fAdd (dVar 4) (dTup (dCons (dVar 5) (dNil)))))))) (sNew 1 (fLc (idVar 3) (gdName 4) (dTest (dOp fLe (dOp fSub (dOp fAdd (dCB (bTop true) (dCons (dVar 4) (dNil))) (dC (.int 1))) (dLenZ (zSetI (dCons (dVar 4) (dNil))))) (dOp fSub (dOp fSub (dVar 0) (dC (.int 1))) (dVar 2)))) (dVar 4) (([("_law_ranks_here", 4)] : List (Str × Nat)).map (·.2))))))) (sRet (dVar 1)))
theorem pd__law_standings {P : Program} {w : World} {K : PySem.W.Frag} {mg : Str → Option Value} {base : Heap} {I : HI} {fa : Addr} {cdv : Value} {A : Around} {outer : List Env} {s : Shared} {H : Hp} {E : XK} {Ed : Exc → Prop} (T : Tf K mg) 
    (hr : Room 1 (A.deeper (envOfC "_law_standings" (defScope s__law_standings) s.heap.objs.size fa cdv))) (tk : Takes (cxD P w K mg base N__law_standings "_law_standings" (defScope s__law_standings) fa cdv A outer s H E) (gOf I Ed E).W) :
    PSsD (cxD P w K mg base N__law_standings "_law_standings" (defScope s__law_standings) fa cdv A outer s H E) (gOf I Ed E) (defBody s__law_standings) (d__law_standings K (gOf I Ed E).Ed) :=
  have nd := sc__law_standings.nd; ds_cons (ds_new (i := 1) nd rfl (by first | exact Or.inl rfl | exact Or.inr rfl) (f_lst (da_cons (d_tup (da_nil)) (da_nil)))) (ds_cons (ds_for (passes_of rfl) rfl (di_range1 rfl T.n_range (da_cons (dv 0) (da_nil))) (dg_name (i := 2) nd rfl (by first | exact Or.inl rfl | exact Or.inr rfl)) (ds_cons (ds_new (i := 3) nd rfl (by first | exact Or.inl rfl | exact Or.inr rfl) (f_lst (da_nil))) (ds_cons (ds_frz 1 (ds_for (passes_of rfl) rfl (di_var 1) (dg_name (i := 4) nd rfl (by first | exact Or.inl rfl | exact Or.inr rfl)) (ds_one (ds_for (passes_of rfl) rfl (di_range1 rfl T.n_range (da_cons (dv 0) (da_nil))) (dg_name (i := 5) nd rfl (by first | exact Or.inl rfl | exact Or.inr rfl)) (ds_one (ds_app (i := 3) rfl (by first | exact Or.inl rfl | exact Or.inr (Or.inl rfl)) (d_op r_add (dv 4) (d_tup (da_cons (dv 5) (da_nil)))))))))) (ds_one (ds_lcN (i := 1) rfl nd rfl rfl (sw_true rfl rfl rfl (by decide +kernel)) (di_var 3) (blkOk_by (own := [("_law_ranks_here", 4)]) (N := N__law_standings) (sc := defScope s__law_standings) (by decide +kernel)) (fun _ _ _ _ _ => pg_name (i := 4) nd rfl (by first | exact Or.inl rfl | exact Or.inr rfl)) sg_name (gw_name (by decide)) (bt_one (fun _ _ _ _ _ => dt_cmp r_le (d_op r_sub (d_op r_add (d_callB (c_top true rfl (h64 hr)) rfl T.n_max boot_max (da_cons (dv 4) (da_nil))) (d_int)) (d_lenZ rfl T.n_len (z_setI rfl rfl T.n_set (da_cons (dv 4) (da_nil))))) (d_op r_sub (d_op r_sub (dv 0) (d_int)) (dv 2)) (nomark _))) (be_of (fun _ _ _ _ _ => dv 4))))))) (ds_one (ds_ret (dv 1))))
abbrev s__law_standing : Stmt := top 23
abbrev N__law_standing : List Str := ["_law_hand_here", "_law_k", "_law_place"]
theorem sc__law_standing : FnScope N__law_standing ["_law_hand_here", "_law_k"] (defScope s__law_standing) := ⟨rfl, rfl, rfl, by decide +kernel, rfl, by decide +kernel, by decide +kernel⟩
def d__law_standing (K : PySem.W.Frag) (hd : Addr) (Ed : DEnv → Exc → Prop) : TSD := sRet (dCall ((C__law_ranks K)) [] Ed (dCons (dF (fLc (idRng1 (dCons (dVar 1) (dNil))) (gdName 2) (dYes) (dCall ((C__law_take hd)) [] (fun _ _ => False) (dCons (dVar 0) (dCons (dVar 1) (dNil)))) (([("_law_place", 2)] : List (Str × Nat)).map (·.2)))) (dNil)))
theorem pd__law_standing {P : Program} {w : World} {K : PySem.W.Frag} {mg : Str → Option Value} {base : Heap} {I : HI} {fa : Addr} {hd : Addr} {cdv : Value} {A : Around} {outer : List Env} {s : Shared} {H : Hp} {E : XK} {Ed : Exc → Prop} (T : Tf K mg) (c__law_ranks : Cl P w K mg base I 2 "_law_ranks" 1 (C__law_ranks K) []) (c__law_take : Cl P w K mg base I 3 "_law_take" 2 (C__law_take hd) [])
    (hr : Room 3 (A.deeper (envOfC "_law_standing" (defScope s__law_standing) s.heap.objs.size fa cdv))) (tk : Takes (cxD P w K mg base N__law_standing "_law_standing" (defScope s__law_standing) fa cdv A outer s H E) (gOf I Ed E).W) :
    PSsD (cxD P w K mg base N__law_standing "_law_standing" (defScope s__law_standing) fa cdv A outer s H E) (gOf I Ed E) (defBody s__law_standing) (d__law_standing K hd (gOf I Ed E).Ed) :=
  have nd := sc__law_standing.nd; ds_one (ds_ret (d_callC c__law_ranks (ar__law_ranks _) hr (by decide) rfl tk (da_cons (pf_e (f_lc rfl nd (di_range1 rfl T.n_range (da_cons (dv 1) (da_nil))) (blkOk_by (own := [("_law_place", 2)]) (N := N__law_standing) (sc := defScope s__law_standing) (by decide +kernel)) (fun _ _ _ _ _ => pg_name (i := 2) nd rfl (by first | exact Or.inl rfl | exact Or.inr rfl)) sg_name (gw_name (by decide)) bt_nil (be_of (fun _ _ _ _ _ => d_callC c__law_take (ar__law_take _) hr (by decide) rfl takes0 (da_cons (dv 0) (da_cons (dv 1) (da_nil))))))) (da_nil))))
abbrev s__law_turned : Stmt := top 24
abbrev N__law_turned : List Str := ["_law_standing_here", "_law_rank"]
theorem sc__law_turned : FnScope N__law_turned ["_law_standing_here"] (defScope s__law_turned) := ⟨rfl, rfl, rfl, by decide +kernel, rfl, by decide +kernel, by decide +kernel⟩
def d__law_turned (K : PySem.W.Frag) (Ed : DEnv → Exc → Prop) : TSD := sRet (dCB bTup (dCons (dF (fLc (idVar 0) (gdName 1) (dYes) (dOp fSub (dCB (bTop true) (dCons (dVar 0) (dNil))) (dVar 1)) (([("_law_rank", 1)] : List (Str × Nat)).map (·.2)))) (dNil)))
theorem pd__law_turned {P : Program} {w : World} {K : PySem.W.Frag} {mg : Str → Option Value} {base : Heap} {I : HI} {fa : Addr} {cdv : Value} {A : Around} {outer : List Env} {s : Shared} {H : Hp} {E : XK} {Ed : Exc → Prop} (T : Tf K mg) 
    (hr : Room 1 (A.deeper (envOfC "_law_turned" (defScope s__law_turned) s.heap.objs.size fa cdv))) (tk : Takes (cxD P w K mg base N__law_turned "_law_turned" (defScope s__law_turned) fa cdv A outer s H E) (gOf I Ed E).W) :
    PSsD (cxD P w K mg base N__law_turned "_law_turned" (defScope s__law_turned) fa cdv A outer s H E) (gOf I Ed E) (defBody s__law_turned) (d__law_turned K (gOf I Ed E).Ed) :=
  have nd := sc__law_turned.nd; ds_one (ds_ret (d_callTy c_tup rfl T.n_tuple boot_tuple (da_cons (pf_e (f_lc rfl nd (di_var 0) (blkOk_by (own := [("_law_rank", 1)]) (N := N__law_turned) (sc := defScope s__law_turned) (by decide +kernel)) (fun _ _ _ _ _ => pg_name (i := 1) nd rfl (by first | exact Or.inl rfl | exact Or.inr rfl)) sg_name (gw_name (by decide)) bt_nil (be_of (fun _ _ _ _ _ => d_op r_sub (d_callB (c_top true rfl (h64 hr)) rfl T.n_max boot_max (da_cons (dv 0) (da_nil))) (dv 1))))) (da_nil))))
abbrev s__law_keeps : Stmt := top 25
abbrev N__law_keeps : List Str := ["_law_rule_here", "_law_dating", "_law_x", "_law_y"]
theorem sc__law_keeps : FnScope N__law_keeps ["_law_rule_here", "_law_dating"] (defScope s__law_keeps) := ⟨rfl, rfl, rfl, by decide +kernel, rfl, by decide +kernel, by decide +kernel⟩
def d__law_keeps (K : PySem.W.Frag) (Ed : DEnv → Exc → Prop) : TSD := sSeq (sFor (idSeq (dOp fIx (dVar 0) (dC (.int 0)))) (gdTup [2, 3]) (sIf (dTest (dOp (fEq true) (dOp fIx (dVar 1) (dVar 2)) (dOp fIx (dVar 1) (dVar 3)))) (sRet (dC (.bl true))) (sNext))) (sSeq (sIf (dTest (dOp (fEq false) (dCB bLen (dCons (dOp fIx (dVar 0) (dC (.int 1))) (dNil))) (dC (.int 1)))) (sRet (dC (.bl false))) (sNext)) (sRet (dOp fLe (dOp fIx (dVar 1) (dOp fIx (dOp fIx (dVar 0) (dC (.int 1))) (dC (.int 1)))) (dOp fIx (dVar 1) (dOp fIx (dOp fIx (dVar 0) (dC (.int 1))) (dC (.int 2)))))))
theorem pd__law_keeps {P : Program} {w : World} {K : PySem.W.Frag} {mg : Str → Option Value} {base : Heap} {I : HI} {fa : Addr} {cdv : Value} {A : Around} {outer : List Env} {s : Shared} {H : Hp} {E : XK} {Ed : Exc → Prop} (T : Tf K mg) 
    (hr : Room 1 (A.deeper (envOfC "_law_keeps" (defScope s__law_keeps) s.heap.objs.size fa cdv))) (tk : Takes (cxD P w K mg base N__law_keeps "_law_keeps" (defScope s__law_keeps) fa cdv A outer s H E) (gOf I Ed E).W) :
    PSsD (cxD P w K mg base N__law_keeps "_law_keeps" (defScope s__law_keeps) fa cdv A outer s H E) (gOf I Ed E) (defBody s__law_keeps) (d__law_keeps K (gOf I Ed E).Ed) :=
  have nd := sc__law_keeps.nd; ds_cons (ds_for (passes_of rfl) rfl (di_seq (d_ix (dv 0) (d_int))) (dg_tup (is := [2, 3]) rfl (pgs_cons (pg_name (i := 2) nd rfl (by first | exact Or.inl rfl | exact Or.inr rfl)) (pgs_cons (pg_name (i := 3) nd rfl (by first | exact Or.inl rfl | exact Or.inr rfl)) (pgs_nil)))) (ds_one (ds_if (dt_cmp (r_ne (h64 hr)) (d_ix (dv 1) (dv 2)) (d_ix (dv 1) (dv 3)) (nomark _)) (ds_one (ds_ret (d_bl))) (ds_nil)))) (ds_cons (ds_if (dt_cmp (r_eq (h64 hr)) (d_callB c_len rfl T.n_len PySem.boot_len (da_cons (d_ix (dv 0) (d_int)) (da_nil))) (d_int) (nomark _)) (ds_one (ds_ret (d_bl))) (ds_nil)) (ds_one (ds_ret (d_cmp r_le (d_ix (dv 1) (d_ix (d_ix (dv 0) (d_int)) (d_int))) (d_ix (dv 1) (d_ix (d_ix (dv 0) (d_int)) (d_int))) (nomark _)))))
abbrev s__law_keep_all : Stmt := top 26
abbrev N__law_keep_all : List Str := ["_law_rules_here", "_law_dating", "_law_rule_here"]
theorem sc__law_keep_all : FnScope N__law_keep_all ["_law_rules_here", "_law_dating"] (defScope s__law_keep_all) := ⟨rfl, rfl, rfl, by decide +kernel, rfl, by decide +kernel, by decide +kernel⟩
def d__law_keep_all (K : PySem.W.Frag) (Ed : DEnv → Exc → Prop) : TSD := sSeq (sFor (idVar 0) (gdName 2) (sIf (dNot (dB (dCall ((C__law_keeps K)) [] Ed (dCons (dVar 2) (dCons (dVar 1) (dNil)))))) (sRet (dC (.bl false))) (sNext))) (sRet (dC (.bl true)))
theorem pd__law_keep_all {P : Program} {w : World} {K : PySem.W.Frag} {mg : Str → Option Value} {base : Heap} {I : HI} {fa : Addr} {cdv : Value} {A : Around} {outer : List Env} {s : Shared} {H : Hp} {E : XK} {Ed : Exc → Prop} (T : Tf K mg) (c__law_keeps : Cl P w K mg base I 2 "_law_keeps" 2 (C__law_keeps K) [])
    (hr : Room 2 (A.deeper (envOfC "_law_keep_all" (defScope s__law_keep_all) s.heap.objs.size fa cdv))) (tk : Takes (cxD P w K mg base N__law_keep_all "_law_keep_all" (defScope s__law_keep_all) fa cdv A outer s H E) (gOf I Ed E).W) :
    PSsD (cxD P w K mg base N__law_keep_all "_law_keep_all" (defScope s__law_keep_all) fa cdv A outer s H E) (gOf I Ed E) (defBody s__law_keep_all) (d__law_keep_all K (gOf I Ed E).Ed) :=
  have nd := sc__law_keep_all.nd; ds_cons (ds_for (passes_of rfl) rfl (di_var 0) (dg_name (i := 2) nd rfl (by first | exact Or.inl rfl | exact Or.inr rfl)) (ds_one (ds_if (dt_not (dt_val (d_callC c__law_keeps (ar__law_keeps _) hr (by decide) rfl tk (da_cons (dv 2) (da_cons (dv 1) (da_nil)))))) (ds_one (ds_ret (d_bl))) (ds_nil)))) (ds_one (ds_ret (d_bl)))
abbrev s__law_rule : Stmt := top 27
abbrev N__law_rule : List Str := ["_law_hand_here", "_law_n", "_law_premises", "_law_k", "_law_x"]
theorem sc__law_rule : FnScope N__law_rule ["_law_hand_here", "_law_n"] (defScope s__law_rule) := ⟨rfl, rfl, rfl, by decide +kernel, rfl, by decide +kernel, by decide +kernel⟩
def d__law_rule (K : PySem.W.Frag) (hd : Addr) (Ed : DEnv → Exc → Prop) : TSD := sSeq (sNew 2 (fLst (dNil))) (sSeq (sFor (idRng1 (dCons (dOp fIx (dLst (dInts [0, 0, 0, 0, 1, 1, 1, 2, 2, 3, 4])) (dCall ((C__law_take hd)) [] Ed (dCons (dVar 0) (dCons (dC (.int 11)) (dNil))))) (dNil))) (gdName 3) (sSeq (sAsg 4 (dCall ((C__law_take hd)) [] Ed (dCons (dVar 0) (dCons (dVar 1) (dNil))))) (sApp 2 (dTup (dCons (dVar 4) (dCons (dCall ((C__law_take hd)) [] Ed (dCons (dVar 0) (dCons (dVar 1) (dNil)))) (dNil))))))) (sSeq (sIf (dTest (dOp (fEq false) (dCall ((C__law_take hd)) [] Ed (dCons (dVar 0) (dCons (dC (.int 8)) (dNil)))) (dC (.int 0)))) (sRet (dTup (dCons (dCB bTup (dCons (dVar 2) (dNil))) (dCons (dTup (dCons (dC (.str "never")) (dNil))) (dNil))))) (sNext)) (sSeq (sAsg 4 (dCall ((C__law_take hd)) [] Ed (dCons (dVar 0) (dCons (dVar 1) (dNil))))) (sRet (dTup (dCons (dCB bTup (dCons (dVar 2) (dNil))) (dCons (dTup (dCons (dC (.str "not after")) (dCons (dVar 4) (dCons (dCall ((C__law_take hd)) [] Ed (dCons (dVar 0) (dCons (dVar 1) (dNil)))) (dNil))))) (dNil))))))))
theorem pd__law_rule {P : Program} {w : World} {K : PySem.W.Frag} {mg : Str → Option Value} {base : Heap} {I : HI} {fa : Addr} {hd : Addr} {cdv : Value} {A : Around} {outer : List Env} {s : Shared} {H : Hp} {E : XK} {Ed : Exc → Prop} (T : Tf K mg) (c__law_take : Cl P w K mg base I 3 "_law_take" 2 (C__law_take hd) [])
    (hr : Room 3 (A.deeper (envOfC "_law_rule" (defScope s__law_rule) s.heap.objs.size fa cdv))) (tk : Takes (cxD P w K mg base N__law_rule "_law_rule" (defScope s__law_rule) fa cdv A outer s H E) (gOf I Ed E).W) :
    PSsD (cxD P w K mg base N__law_rule "_law_rule" (defScope s__law_rule) fa cdv A outer s H E) (gOf I Ed E) (defBody s__law_rule) (d__law_rule K hd (gOf I Ed E).Ed) :=
  have nd := sc__law_rule.nd; ds_cons (ds_new (i := 2) nd rfl (by first | exact Or.inl rfl | exact Or.inr rfl) (f_lst (da_nil))) (ds_cons (ds_for (passes_of rfl) rfl (di_range1 rfl T.n_range (da_cons (d_ix (d_lst (da_lits (ns := [0, 0, 0, 0, 1, 1, 1, 2, 2, 3, 4]) rfl)) (d_callC c__law_take (ar__law_take _) hr (by decide) rfl tk (da_cons (dv 0) (da_cons (d_int) (da_nil))))) (da_nil))) (dg_name (i := 3) nd rfl (by first | exact Or.inl rfl | exact Or.inr rfl)) (ds_cons (ds_set (i := 4) nd rfl (by first | exact Or.inl rfl | exact Or.inr rfl) (d_callC c__law_take (ar__law_take _) hr (by decide) rfl tk (da_cons (dv 0) (da_cons (dv 1) (da_nil))))) (ds_one (ds_app (i := 2) rfl (by first | exact Or.inl rfl | exact Or.inr (Or.inl rfl)) (d_tup (da_cons (dv 4) (da_cons (d_callC c__law_take (ar__law_take _) hr (by decide) rfl tk (da_cons (dv 0) (da_cons (dv 1) (da_nil)))) (da_nil)))))))) (ds_cons (ds_if (dt_cmp (r_eq (h64 hr)) (d_callC c__law_take (ar__law_take _) hr (by decide) rfl tk (da_cons (dv 0) (da_cons (d_int) (da_nil)))) (d_int) (nomark _)) (ds_one (ds_ret (d_tup (da_cons (d_callTy c_tup rfl T.n_tuple boot_tuple (da_cons (dv 2) (da_nil))) (da_cons (d_tup (da_cons (d_str) (da_nil))) (da_nil)))))) (ds_nil)) (ds_cons (ds_set (i := 4) nd rfl (by first | exact Or.inl rfl | exact Or.inr rfl) (d_callC c__law_take (ar__law_take _) hr (by decide) rfl tk (da_cons (dv 0) (da_cons (dv 1) (da_nil))))) (ds_one (ds_ret (d_tup (da_cons (d_callTy c_tup rfl T.n_tuple boot_tuple (da_cons (dv 2) (da_nil))) (da_cons (d_tup (da_cons (d_str) (da_cons (dv 4) (da_cons (d_callC c__law_take (ar__law_take _) hr (by decide) rfl tk (da_cons (dv 0) (da_cons (dv 1) (da_nil)))) (da_nil))))) (da_nil)))))))))
abbrev s__law_sorted : Stmt := top 29
abbrev N__law_sorted : List Str := ["_law_t", "_law_cut", "_law_s", "_law_i"]
theorem sc__law_sorted : FnScope N__law_sorted ["_law_t", "_law_cut", "_law_s"] (defScope s__law_sorted) := ⟨rfl, rfl, rfl, by decide +kernel, rfl, by decide +kernel, by decide +kernel⟩
def d__law_sorted (K : PySem.W.Frag) (Ed : DEnv → Exc → Prop) : TSD := sRet (dCall ((C__law_ranks K)) [] Ed (dCons (dF (fLc (idRng1 (dCons (dCB bLen (dCons (dVar 0) (dNil))) (dNil))) (gdName 3) (dYes) (dIf (dTest (dOp fLt (dOp fIx (dVar 0) (dVar 3)) (dVar 1))) (dTup (dCons (dC (.int 0)) (dCons (dOp fIx (dVar 0) (dVar 3)) (dCons (dOp fIx (dVar 2) (dVar 3)) (dNil))))) (dTup (dCons (dC (.int 1)) (dCons (dOp fIx (dVar 2) (dVar 3)) (dCons (dOp fIx (dVar 0) (dVar 3)) (dNil)))))) (([("_law_i", 3)] : List (Str × Nat)).map (·.2)))) (dNil)))
theorem pd__law_sorted {P : Program} {w : World} {K : PySem.W.Frag} {mg : Str → Option Value} {base : Heap} {I : HI} {fa : Addr} {cdv : Value} {A : Around} {outer : List Env} {s : Shared} {H : Hp} {E : XK} {Ed : Exc → Prop} (T : Tf K mg) (c__law_ranks : Cl P w K mg base I 2 "_law_ranks" 1 (C__law_ranks K) [])
    (hr : Room 2 (A.deeper (envOfC "_law_sorted" (defScope s__law_sorted) s.heap.objs.size fa cdv))) (tk : Takes (cxD P w K mg base N__law_sorted "_law_sorted" (defScope s__law_sorted) fa cdv A outer s H E) (gOf I Ed E).W) :
    PSsD (cxD P w K mg base N__law_sorted "_law_sorted" (defScope s__law_sorted) fa cdv A outer s H E) (gOf I Ed E) (defBody s__law_sorted) (d__law_sorted K (gOf I Ed E).Ed) :=
  have nd := sc__law_sorted.nd; ds_one (ds_ret (d_callC c__law_ranks (ar__law_ranks _) hr (by decide) rfl tk (da_cons (pf_e (f_lc rfl nd (di_range1 rfl T.n_range (da_cons (d_callB c_len rfl T.n_len PySem.boot_len (da_cons (dv 0) (da_nil))) (da_nil))) (blkOk_by (own := [("_law_i", 3)]) (N := N__law_sorted) (sc := defScope s__law_sorted) (by decide +kernel)) (fun _ _ _ _ _ => pg_name (i := 3) nd rfl (by first | exact Or.inl rfl | exact Or.inr rfl)) sg_name (gw_name (by decide)) bt_nil (be_of (fun _ _ _ _ _ => d_ifExp (dt_cmp (r_lt hr.units0) (d_ix (dv 0) (dv 3)) (dv 1) (nomark _)) (d_tup (da_cons (d_int) (da_cons (d_ix (dv 0) (dv 3)) (da_cons (d_ix (dv 2) (dv 3)) (da_nil))))) (d_tup (da_cons (d_int) (da_cons (d_ix (dv 2) (dv 3)) (da_cons (d_ix (dv 0) (dv 3)) (da_nil))))))))) (da_nil))))
abbrev s__law_plain : Stmt := top 30
abbrev N__law_plain : List Str := ["_law_thing", "_law_n", "_law_rank"]
theorem sc__law_plain : FnScope N__law_plain ["_law_thing", "_law_n"] (defScope s__law_plain) := ⟨rfl, rfl, rfl, by decide +kernel, rfl, by decide +kernel, by decide +kernel⟩
def d__law_plain (K : PySem.W.Frag) (Ed : DEnv → Exc → Prop) : TSD := sRet (dAndV (dCB bIsi (dCons (dVar 0) (dCons (dC (.ty "tuple")) (dNil)))) (dAndV (dOp (fEq false) (dCB bLen (dCons (dVar 0) (dNil))) (dVar 1)) (dCB bAll (dCons (dF (fLc (idVar 0) (gdName 2) (dYes) (dCall ((C__law_whole K)) [] (fun _ _ => False) (dCons (dVar 2) (dNil))) (([("_law_rank", 2)] : List (Str × Nat)).map (·.2)))) (dNil)))))
theorem pd__law_plain {P : Program} {w : World} {K : PySem.W.Frag} {mg : Str → Option Value} {base : Heap} {I : HI} {fa : Addr} {cdv : Value} {A : Around} {outer : List Env} {s : Shared} {H : Hp} {E : XK} {Ed : Exc → Prop} (T : Tf K mg) (c__law_whole : Cl P w K mg base I 2 "_law_whole" 1 (C__law_whole K) [])
    (hr : Room 2 (A.deeper (envOfC "_law_plain" (defScope s__law_plain) s.heap.objs.size fa cdv))) (tk : Takes (cxD P w K mg base N__law_plain "_law_plain" (defScope s__law_plain) fa cdv A outer s H E) (gOf I Ed E).W) :
    PSsD (cxD P w K mg base N__law_plain "_law_plain" (defScope s__law_plain) fa cdv A outer s H E) (gOf I Ed E) (defBody s__law_plain) (d__law_plain K (gOf I Ed E).Ed) :=
  have nd := sc__law_plain.nd; ds_one (ds_ret (d_and (d_callB c_isi rfl T.n_isinstance boot_isinstance (da_cons (dv 0) (da_cons (d_ty rfl T.n_tuple boot_tuple) (da_nil)))) (d_and (d_cmp (r_eq (h64 hr)) (d_callB c_len rfl T.n_len PySem.boot_len (da_cons (dv 0) (da_nil))) (dv 1) (nomark _)) (d_one (d_callB (c_all rfl) rfl T.n_all boot_all (da_cons (pf_e (f_lc rfl nd (di_var 0) (blkOk_by (own := [("_law_rank", 2)]) (N := N__law_plain) (sc := defScope s__law_plain) (by decide +kernel)) (fun _ _ _ _ _ => pg_name (i := 2) nd rfl (by first | exact Or.inl rfl | exact Or.inr rfl)) sg_name (gw_name (by decide)) bt_nil (be_of (fun _ _ _ _ _ => d_callC c__law_whole (ar__law_whole _) hr (by decide) rfl takes0 (da_cons (dv 2) (da_nil)))))) (da_nil)))))))
abbrev s__law_word : Stmt := top 31
abbrev N__law_word : List Str := ["_law_one", "_law_cut", "_law_other", "e"]
theorem sc__law_word : FnScope N__law_word ["_law_one", "_law_cut", "_law_other"] (defScope s__law_word) := ⟨rfl, rfl, rfl, by decide +kernel, rfl, by decide +kernel, by decide +kernel⟩
def d__law_word (K : PySem.W.Frag) (Ed : DEnv → Exc → Prop) : TSD := sSeq (Tm.sMix K ((.ref (He.ga K "BadStanding"), some 3, fun a d x => sRet (dTup (dCons (dC (.str "standing")) (dCons (dXf K a d x "index" (dVar 3)) (dNil))))) :: (.ref (He.ga K "BadCut"), none, fun a d x => sRet (dC (.str "cut"))) :: (.ref (He.ga K "OtherPlaces"), none, fun a d x => sRet (dC (.str "places"))) :: []) (fun Ed => sDrop (dCall ((C_sorted_over K)) [] Ed (dCons (dVar 0) (dCons (dVar 1) (dCons (dVar 2) (dNil)))))) Ed) (sRet (dC (.str "good")))
theorem pd__law_word {P : Program} {w : World} {K : PySem.W.Frag} {mg : Str → Option Value} {base : Heap} {I : HI} {fa : Addr} {cdv : Value} {A : Around} {outer : List Env} {s : Shared} {H : Hp} {E : XK} {Ed : Exc → Prop} (T : Tf K mg) (c_sorted_over : Cl P w K mg base I 6 "sorted_over" 3 (C_sorted_over K) []) (hnx : I.noXd)
    (hr : Room 6 (A.deeper (envOfC "_law_word" (defScope s__law_word) s.heap.objs.size fa cdv))) (tk : Takes (cxD P w K mg base N__law_word "_law_word" (defScope s__law_word) fa cdv A outer s H E) (gOf I Ed E).W) :
    PSsD (cxD P w K mg base N__law_word "_law_word" (defScope s__law_word) fa cdv A outer s H E) (gOf I Ed E) (defBody s__law_word) (d__law_word K (gOf I Ed E).Ed) :=
  have nd := sc__law_word.nd; ds_cons (Tm.ds_mix rfl rfl nd tk hnx (fun Ed W pn xe tk po => ds_one (ds_expr (d_callC c_sorted_over (ar_sorted_over _) hr (by decide) rfl tk (da_cons (dv 0) (da_cons (dv 1) (da_cons (dv 2) (da_nil))))))) (.named (i := 3) rfl rfl ⟨rfl, by decide, Or.inl T.g_BadStanding⟩ (fun a oe x d pn hz hv => ds_one (ds_ret (d_tup (da_cons (d_str) (da_cons (d_xf hz hv (dv 3)) (da_nil)))))) (.plain ⟨rfl, by decide, Or.inl T.g_BadCut⟩ (fun a oe x d pn hz hv => ds_one (ds_ret (d_str))) (.plain ⟨rfl, by decide, Or.inl T.g_OtherPlaces⟩ (fun a oe x d pn hz hv => ds_one (ds_ret (d_str))) (.nil))))) (ds_one (ds_ret (d_str)))
end K65

namespace K65
open PySem PySem.Spec PyProof.Rows L2 Dl Zs
abbrev eK (Qd : D → Prop) : DEnds := ⟨fun _ => Qd .non, Qd, fun _ => False, fun _ => False⟩
theorem stdAsk_mono {K : PySem.W.Frag} {x pl : D} {Q Q' : List Int → Prop} {E : Exc → Prop} (h : stdAsk K x pl Q E) (k : ∀ ns, Std ns → isSeqI x ns → Q ns → Q' ns) : stdAsk K x pl Q' E := by
  obtain ⟨h1, h2, h⟩ := h
  refine ⟨h1, h2, ?_⟩
  cases hs : seqOf x with
  | none => rw [hs] at h; exact h
  | some xs =>
    rw [hs] at h
    dsimp only at h ⊢
    obtain ⟨hty, h⟩ := h
    refine ⟨hty, ?_⟩
    by_cases c1 : 7 < xs.length
    · rw [if_pos c1] at h ⊢; exact h
    · rw [if_neg c1] at h ⊢
      by_cases c2 : offLen pl xs.length = true
      · rw [if_pos c2] at h ⊢; exact h
      · rw [if_neg c2] at h ⊢
        cases hf : fstBad (fun _ d => !isWh d (.int 0) .non) [] xs with
        | some i => rw [hf] at h; exact h
        | none =>
          rw [hf] at h
          dsimp only at h ⊢
          obtain ⟨ns, e, h⟩ := h
          obtain ⟨ns', e', pos⟩ := ints_of_wh hf
          have en : ns = ns' := Ns.ints_inj (e.symm.trans e')
          subst en
          refine ⟨ns, e, ?_⟩
          by_cases c3 : ((canon ns).length : Int) = topI ns + 1
          · rw [if_pos c3] at h ⊢
            exact k ns ⟨pos, by rw [e, List.length_map] at c1; omega, c3⟩ (by rw [isSeqI, hs, e]) h
          · rw [if_neg c3] at h ⊢; exact h
theorem ct_ranks_number {K : PySem.W.Frag} {ds : List D} {Qd : D → Prop} {Ed : Exc → Prop} (h : C_ranks_number K ds Qd Ed) : d_ranks_number K (fun _ x => Ed x) (eK Qd) (startD N_ranks_number ds) := by
  obtain ⟨x, rfl, q⟩ := h
  refine ⟨_, _, rfl, rfl, x, .non, rfl, stdAsk_mono q fun ns std hs q => ?_⟩
  refine ⟨1, rfl, ns, .int (-1), .inr rfl, rfl, fun e => ?_, fun m t => ?_⟩
  · subst e; exact q
  · rw [topI_top std.pos t]; exact q
theorem ct_check_standing {K : PySem.W.Frag} {ds : List D} {Qd : D → Prop} {Ed : Exc → Prop} (h : C_check_standing K ds Qd Ed) : d_check_standing K (fun _ x => Ed x) (eK Qd) (startD N_check_standing ds) := by
  obtain ⟨x, pl, rfl, hx, ho, q⟩ := h
  obtain ⟨t, ht⟩ := Option.isSome_iff_exists.mp hx
  refine ⟨_, _, rfl, rfl, one_sz, _, _, rfl, t, ht, ⟨_, rfl, mem_lt, ⟨_, rfl, ?_⟩⟩⟩
  rw [isSeq_iff ht]
  cases hs : seqOf x with
  | none =>
    rw [hs] at q
    exact ⟨_, rfl, q⟩
  | some xs =>
    rw [hs] at q
    dsimp only at q
    obtain ⟨hty, q⟩ := q
    refine it_f rfl ⟨_, _, rfl, rfl, ?_⟩
    dsimp only [dNil]
    refine len_seq hs ⟨_, _, rfl, rfl, _, rfl, ?_⟩
    by_cases c1 : 7 < xs.length
    · rw [if_pos c1] at q
      exact it_t (decide_eq_true (by exact_mod_cast c1)) ⟨_, rfl, q⟩
    rw [if_neg c1] at q
    refine it_f (decide_eq_false (by intro z; exact c1 (by exact_mod_cast z))) ?_
    dsimp only [sNext]
    refine seqD (P := fun env => env = startD N_check_standing [x, pl] ∧ offLen pl xs.length = false) (fun env he => ?_) (fun hn => ?_)
    rotate_left
    · -- the length that is asked for
      refine ⟨_, _, rfl, rfl, ?_⟩
      cases pl <;> first | exact ho.elim | skip
      case non => exact ⟨_, rfl, hn _ ⟨rfl, rfl⟩⟩
      case int p =>
        refine ⟨_, rfl, ⟨_, _, rfl, rfl, ?_⟩⟩
        dsimp only [dNil]
        refine len_seq hs ⟨_, _, rfl, rfl, okI_int.ok, okI_int.ok, _, rfl, ?_⟩
        rw [eqD_int]
        by_cases c2 : (xs.length : Int) = p
        · exact it_f (by rw [decide_eq_true c2]; rfl) (hn _ ⟨rfl, decide_eq_false fun z => z c2⟩)
        · rw [if_pos (show offLen (.int p) xs.length = true from decide_eq_true c2)] at q
          exact it_t (by rw [decide_eq_false c2]; rfl) ⟨_, rfl, q⟩
    · obtain ⟨rfl, c2⟩ := he
      rw [if_neg (by rw [c2]; exact Bool.false_ne_true)] at q
      refine ⟨x, xs, rfl, hs, ?_⟩
      refine enum_loop (xs := xs) (fun _ d => !isWh d (.int 0) .non) (fun env => ∃ a b, env = [Slot.val x, Slot.val pl, a, b]) (fun pre d suf env nx e p hf hb => ?_) (fun pre d suf env nx e p hb k => ?_) (fun env hf p => ?_) xs [] _ rfl rfl ⟨_, _, rfl⟩
      · obtain ⟨a, b, rfl⟩ := p
        rw [hf] at q
        have hd := hty d (by rw [e]; simp)
        refine ⟨_, _, rfl, rfl, ⟨_, _, _, rfl, hd, trivial, trivial, _, rfl, ?_⟩⟩
        refine it_t hb ?_
        exact ⟨_, _, rfl, rfl, q⟩
      · obtain ⟨a, b, rfl⟩ := p
        have hd := hty d (by rw [e]; simp)
        refine ⟨_, _, rfl, rfl, ⟨_, _, _, rfl, hd, trivial, trivial, _, rfl, ?_⟩⟩
        refine it_f hb ?_
        exact k _ ⟨_, _, rfl⟩
      · obtain ⟨a, b, rfl⟩ := p
        rw [hf] at q
        dsimp only at q
        obtain ⟨ns, e, q⟩ := q
        obtain ⟨ns', e', pos⟩ := ints_of_wh hf
        have en : ns = ns' := Ns.ints_inj (e.symm.trans e')
        subst en
        have few : ns.length ≤ 7 := by rw [e, List.length_map] at c1; omega
        have sq : isSeqI x ns := by rw [isSeqI, hs, e]
        have xc : x = .lst (ns.map D.int) ∨ x = .tup (ns.map D.int) := (isSeqI_cases sq).symm
        have hx1 : [x] = [D.lst (ns.map D.int)] ∨ [x] = [D.tup (ns.map D.int)] := xc.imp (fun z => by rw [z]) fun z => by rw [z]
        refine ⟨_, _, rfl, rfl, ns, hx1, by omega, ?_⟩
        have fin : ∀ m : Int, m = topI ns → fAdd (.int m) (.int 1) (fun y => fEq true (.int ((canon ns).length : Nat)) y fun d => ∃ c, d = .bl c ∧ if c = true then sRaise (He.ga K "BadStanding") "index" (fun _ x => Ed x) (dUn (fUn fun i => -i) (dC (.int 1))) ⟨sRet (dCB bTup (dCons (dVar 0) dNil)) (eK Qd), Qd, fun _ => False, fun _ => False⟩ [Slot.val x, Slot.val pl, a, b] else sNext ⟨sRet (dCB bTup (dCons (dVar 0) dNil)) (eK Qd), Qd, fun _ => False, fun _ => False⟩ [Slot.val x, Slot.val pl, a, b]) := fun m em => by
          subst em
          refine ⟨okI_int.ok, okI_int.ok, _, rfl, ?_⟩
          rw [eqD_int]
          by_cases c3 : ((canon ns).length : Int) = topI ns + 1
          · rw [if_pos c3] at q
            refine it_f (by rw [decide_eq_true c3]; rfl) ?_
            refine ⟨_, _, rfl, rfl, x, rfl, ?_⟩
            rcases xc with rfl | rfl
            · exact q
            · exact q
          · rw [if_neg c3] at q
            exact it_t (by rw [decide_eq_false c3]; rfl) ⟨_, rfl, q⟩
        refine ⟨_, _, rfl, rfl, 1, rfl, ns, .int (-1), hx1, rfl, fun en => ?_, fun m t => ?_⟩
        · exact fin (-1) (by rw [en]; rfl)
        · exact fin m (topI_top pos t)
end K65

namespace K65
open PySem PySem.Spec PyProof.Rows L2 Dl Ns Zs Rk
theorem up_of {os : List (List Int)} (nd : os.Nodup) (h : os.Pairwise fun a b => HT.lexLt b a = false) : os.Pairwise tLt := by
  refine (h.and nd).imp fun {a b} ⟨h1, h2⟩ => ?_
  cases e : HT.lexLt a b with
  | true => exact e
  | false => exact absurd (lexLt_tri a b e h1) h2
theorem sortT {env : DEnv} {i : Nat} {ks : List (List Int)} (e : env[i]? = some (.val (.lst (ks.map tupI)))) (few : ks.length < 64) (ne : ∀ k ∈ ks, k ≠ []) {Q : D → Prop}
    (h : ∀ S : List (List Int), S.Pairwise tLt → (∀ x, x ∈ S ↔ x ∈ ks) → S.length < 64 → Q (.lst (S.map tupI))) : dSortZ (zSet (dCons (dVar i) dNil)) env Q := by
  refine ⟨_, _, e, rfl, ks, rfl, few, fun out hout nd few2 => ?_⟩
  obtain ⟨os, rfl, hos⟩ := lift_map tupI (M := ks) fun d hd => (hout d).mp hd
  refine ⟨sortable_of tupI alike_tI fun a ha => tI_go (ne a (hos a ha)), fun out' pm asc => ?_⟩
  obtain ⟨S, pS, rfl⟩ := Ns.perm_lift tupI pm
  have ndS : S.Nodup := pS.nodup_iff.mpr (nodup_of_map nd)
  refine h S (up_of ndS ?_) (fun x => ?_) ?_
  · refine (List.pairwise_map.mp asc).imp fun {a b} h => ?_
    rw [dataLt_tI] at h
    exact h
  · rw [pS.mem_iff]
    refine ⟨hos x, fun hx => ?_⟩
    have := (hout (tupI x)).mpr (List.mem_map_of_mem hx)
    obtain ⟨y, hy, ey⟩ := List.mem_map.mp this
    rw [← tupI_inj ey]
    exact hy
  · rw [pS.length_eq]
    rw [List.length_map] at few2
    exact few2
theorem rks_T {S ks : List (List Int)} (asc : S.Pairwise tLt) (mem : ∀ x, x ∈ S ↔ x ∈ ks) : Rks tLt ks (ks.map fun k => ((S.findIdx fun c => c == k : Nat) : Int)) :=
  rks_of asc (fun a h => by rw [tLt, lexLt_irr] at h; cases h) lexLt_tr mem
theorem rks_I {ks : List Int} : Rks (fun a b : Int => a < b) ks (ks.map fun k => (((canon ks).findIdx fun c => c == k : Nat) : Int)) :=
  rks_of (up_canon ks) (fun a h => Int.lt_irrefl a h) (fun h1 h2 => Int.lt_trans h1 h2) fun x => mem_canon
theorem key_T (k : List Int) : Nd.isKey (tupI k) := ⟨kok_tI k, by have h : (tI k).dep = 1 := (tI_good k).2.1; show (tI k).dep ≤ 8; omega, _, rfl⟩
end K65

namespace K65
open PySem PySem.Spec PyProof.Rows L2 Dl Ns Zs Rk Rd
local macro_rules
  | `(tactic| decreasing_trivial_pre_omega) => `(tactic| first
  | ((with_reducible apply Rd.rVar); (rfl); (rfl))
  | (with_reducible refine Rd.rC ?_)
  | (with_reducible refine Rd.rCons ?_)
  | (with_reducible refine Rd.rNil ?_)
  | (with_reducible refine Rd.rInts ?_)
  | (with_reducible refine Rd.rOp ?_)
  | (with_reducible refine Rd.rUn ?_)
  | (with_reducible refine Rd.rNeg ?_)
  | (with_reducible refine Rd.rTest ?_)
  | (with_reducible refine Rd.rB ?_)
  | (with_reducible refine Rd.rEx ?_)
  | (with_reducible refine Rd.rAnd ?_)
  | (with_reducible refine Rd.rOr ?_)
  | (with_reducible refine Rd.rNot ?_)
  | (with_reducible refine Rd.rYes ?_)
  | (with_reducible refine Rd.rAndV ?_)
  | (with_reducible refine Rd.rOrV ?_)
  | (with_reducible refine Rd.rNotV ?_)
  | (with_reducible refine Rd.rIfE ?_)
  | (with_reducible refine Rd.rTup ?_)
  | (with_reducible refine Rd.rLst ?_)
  | (with_reducible refine Rd.rFLst ?_)
  | ((with_reducible refine Rd.rSz ?_ ?_); (first | decide | exact of_decide_eq_true rfl))
  | (with_reducible refine Rd.rF ?_)
  | (with_reducible refine Rd.rCB ?_)
  | (with_reducible refine Rd.rCall ?_)
  | (with_reducible refine Rd.rSl ?_)
  | (with_reducible refine Rd.rNoP ?_)
  | (with_reducible refine Rd.rPart ?_)
  | (with_reducible refine Rd.rExI ?_)
  | (with_reducible refine Rd.rSub ?_)
  | (with_reducible refine Rd.rAdd ?_)
  | (with_reducible refine Rd.rLt ?_)
  | (with_reducible refine Rd.rEqI ?_)
  | (with_reducible refine Rd.rLenT ?_)
  | (with_reducible refine Rd.rLenL ?_)
  | (with_reducible refine Rd.rTupT ?_)
  | (with_reducible refine Rd.rTupL ?_)
  | (with_reducible refine Rd.rLstT ?_)
  | (with_reducible refine Rd.rLstL ?_)
  | (with_reducible refine Rd.rSeq ?_)
  | (with_reducible refine Rd.rNext ?_)
  | (with_reducible refine Rd.rRet ?_)
  | (with_reducible refine Rd.rIf ?_)
  | (with_reducible refine Rd.rAsg ?_)
  | ((with_reducible refine Rd.rKeep ?_ ?_); (first | exact Or.inl rfl | exact Or.inr rfl | assumption))
  | (with_reducible refine Rd.rNew ?_)
  | ((with_reducible refine Rd.rNewK ?_ ?_ ?_); (exact Nat.le_of_ble_eq_true rfl); (first | exact Or.inl rfl | exact Or.inr rfl | assumption))
  | (with_reducible refine Rd.rYesT ?_)
  | (with_reducible refine Rd.rNoT ?_)
  | (with_reducible refine Rd.rN1 ?_)
  | (with_reducible refine Rd.rN2 ?_)
  | (with_reducible refine Rd.rX1 ?_)
  | (with_reducible refine Rd.rX2 ?_)
  | (with_reducible refine Rd.rX3 ?_)
  | (with_reducible refine Rd.rX4 ?_)
  | (with_reducible refine Rd.rLc ?_)
  | (with_reducible refine Rd.rDn ?_)
  | (with_reducible refine Rd.rEnum ?_)
  | (with_reducible refine Rd.rSeqI ?_)
  | (with_reducible refine Rd.rDrop ?_)
  | (with_reducible refine Rd.rFor ?_)
  | ((with_reducible apply Rd.rVarI); (rfl); (rfl))
  | (with_reducible refine Rd.rGdN ?_)
  | ((with_reducible refine Rd.rGdT ?_ ?_); (rfl))
  | (with_reducible refine Rd.rRng ?_)
  | ((with_reducible refine Rd.rKeep ?_ ?_); (exact Or.inr (tI_good _).2.2)))
def keyedT : List (List Int) → Nat → List (D × D)
  | [], _ => []
  | c :: cs, k => (tupI c, .int (k : Nat)) :: keyedT cs (k + 1)
theorem keyedT_fst : ∀ (cs : List (List Int)) (k : Nat), (keyedT cs k).map (·.1) = cs.map tupI
  | [], _ => rfl
  | c :: cs, k => by rw [keyedT, List.map_cons, List.map_cons, keyedT_fst cs]
theorem keyedT_at : ∀ {cs : List (List Int)} {k i : Nat} {c : List Int}, cs[i]? = some c → (keyedT cs k)[i]? = some (tupI c, .int ((k + i : Nat) : Int))
  | c :: cs, k, 0, x, h => by
    rw [List.getElem?_cons_zero] at h
    cases h
    rfl
  | c :: cs, k, i + 1, x, h => by
    rw [List.getElem?_cons_succ] at h
    rw [keyedT, List.getElem?_cons_succ, keyedT_at h]
    congr 3
    omega
theorem dn_ranks {s0 s1 : Slot} {Q : D → Prop} : ∀ (cs : List (List Int)) (k : Nat) (acc : List (D × D)) (s2 s3 : Slot), cs.Nodup → (∀ c ∈ cs, tupI c ∉ acc.map (·.1)) → Q (Nd.dcnD (acc ++ keyedT cs k)) →
    Nd.dnD (gdTup [2, 3]) dYes (dVar 3) (dVar 2) [s0, s1, s2, s3] (enumD k (cs.map tupI)) acc Q
  | [], k, acc, s2, s3, _, _, q => by
    show Q (Nd.dcnD acc)
    simpa [keyedT] using q
  | c :: cs, k, acc, s2, s3, nd, fresh, q => by
    obtain ⟨n1, n2⟩ := List.nodup_cons.mp nd
    refine ⟨_, rfl, rfl, _, _, rfl, rfl, key_T c, fresh c List.mem_cons_self, _, _, rfl, rfl, rfl, ?_⟩
    refine dn_ranks cs (k + 1) _ _ _ n2 (fun c' hc hm => ?_) (by simpa [keyedT] using q)
    rw [List.map_append, List.mem_append] at hm
    rcases hm with hm | hm
    · exact fresh c' (List.mem_cons_of_mem _ hc) hm
    · rw [List.map_cons, List.map_nil, List.mem_singleton] at hm
      rw [tupI_inj hm] at hc
      exact n1 hc
theorem nodup_T {S : List (List Int)} (h : S.Pairwise tLt) : S.Nodup := h.imp fun {a b} q e => by
  rw [e, tLt, lexLt_irr] at q
  cases q
def intsOf : List D → List Int
  | .int i :: r => i :: intsOf r
  | _ => []
theorem intsOf_map : ∀ k : List Int, intsOf (k.map D.int) = k
  | [] => rfl
  | i :: k => congrArg (i :: ·) (intsOf_map k)
def rankT (S : List (List Int)) : D → D
  | .tup xs => .int ((S.findIdx fun c => c == intsOf xs : Nat) : Int)
  | _ => .non
theorem rankT_at (S : List (List Int)) (k : List Int) : rankT S (tupI k) = .int ((S.findIdx fun c => c == k : Nat) : Int) := by
  show D.int _ = _
  rw [intsOf_map]
theorem map_rankT (S ks : List (List Int)) : ((ks.map tupI).filter fun _ => true).map (rankT S) = (ks.map fun k => ((S.findIdx fun c => c == k : Nat) : Int)).map D.int := by
  rw [List.filter_eq_self.mpr (fun _ _ => rfl), List.map_map, List.map_map]
  exact List.map_congr_left fun k _ => rankT_at S k
theorem ct_standing_of {K : PySem.W.Frag} {ds : List D} {Qd : D → Prop} {Ed : Exc → Prop} (h : C_standing_of K ds Qd Ed) : d_standing_of K (fun _ x => Ed x) (eK Qd) (startD N_standing_of ds) := by
  obtain ⟨ks, rfl, few, ne, q⟩ := h
  unfold d_standing_of
  repeat decreasing_trivial_pre_omega
  refine sortT (i := 0) rfl few ne fun S asc mem sl => ⟨.inl rfl, _, rfl, ?_, ?_⟩
  · have : (64 : Nat) ≤ sizeLine := by decide
    rw [enumD_len, List.length_map]
    omega
  · refine dn_ranks S 0 [] _ _ (nodup_T asc) (fun c _ z => by cases z) ⟨.inl rfl, ?_⟩
    repeat decreasing_trivial_pre_omega
    refine ⟨?_, ?_⟩
    · have : (64 : Nat) ≤ sizeLine := by decide
      rw [List.length_map]
      omega
    · refine lcD_map (rankT S) (fun _ => true) _ [] (fun d hd R hR => ?_) ?_
      · obtain ⟨k, hk, rfl⟩ := List.mem_map.mp hd
        obtain ⟨f1, f2⟩ := idx_at (S := S) ((mem k).mpr hk)
        refine ⟨_, _, rfl, rfl, _, _, rfl, rfl, keyedT S 0, S.findIdx (fun c => c == k), rankT S (tupI k), rfl, fun p hp => ?_, key_T k, ?_, rfl, hR⟩
        · obtain ⟨c, hc, e⟩ := List.mem_map.mp (show p.1 ∈ S.map tupI by rw [← keyedT_fst S 0]; exact List.mem_map_of_mem hp)
          rw [← e]
          exact key_T c
        · rw [rankT_at, keyedT_at f2, Nat.zero_add]
      · rw [List.nil_append, map_rankT]
        exact ⟨_, rfl, q _ (rks_T asc mem)⟩
def rankI (cs : List Int) : D → D
  | .int n => .int ((cs.findIdx fun c => c == n : Nat) : Int)
  | _ => .non
theorem map_rankI (cs ns : List Int) : ((ns.map D.int).filter fun _ => true).map (rankI cs) = (ns.map fun k => ((cs.findIdx fun c => c == k : Nat) : Int)).map D.int := by
  rw [List.filter_eq_self.mpr (fun _ _ => rfl), List.map_map, List.map_map]
  rfl
theorem no_eqI {cs : List Int} {n : Int} (m : Nat) (z' : D) (hm : m < cs.findIdx (fun c => c == n)) (h : (cs.map D.int)[m]? = some z') : eqD z' (.int n) = false := by
  rw [List.getElem?_map] at h
  cases e : cs[m]? with
  | none => rw [e] at h; cases h
  | some c =>
    rw [e] at h
    cases h
    rw [eqD_int]
    refine decide_eq_false fun z => idx_lo hm ?_
    rw [e, z]
theorem eqD_T (a b : List Int) : eqD (tupI a) (tupI b) = decide (a = b) := by
  show PyData.eqv (tI a).py (tI b).py = _
  rw [tI_py, tI_py]
  simp only [PyData.eqv]
  exact eqv_ints a b
theorem no_eqT {cs : List (List Int)} {n : List Int} (m : Nat) (z' : D) (hm : m < cs.findIdx (fun c => c == n)) (h : (cs.map tupI)[m]? = some z') : eqD z' (tupI n) = false := by
  rw [List.getElem?_map] at h
  cases e : cs[m]? with
  | none => rw [e] at h; cases h
  | some c =>
    rw [e] at h
    cases h
    rw [eqD_T]
    refine decide_eq_false fun z => idx_lo hm ?_
    rw [e, z]
theorem ok_T (k : List Int) : okI (tupI k) := by
  obtain ⟨a, b, _⟩ := tI_good k
  exact ⟨a, by rw [show (tupI k).dep = 1 from b]; omega⟩
theorem okL_T (cs : List (List Int)) : okD (.lst (cs.map tupI)) := okD_lst fun x m => by
  obtain ⟨c, _, rfl⟩ := List.mem_map.mp m
  exact ok_T c
theorem okL_I (cs : List Int) : okD (.lst (cs.map D.int)) := okD_lst fun x m => by
  obtain ⟨c, _, rfl⟩ := List.mem_map.mp m
  exact okI_int
theorem ct__law_ranks {K : PySem.W.Frag} {ds : List D} {Qd : D → Prop} {Ed : Exc → Prop} (h : C__law_ranks K ds Qd Ed) : d__law_ranks K (fun _ x => Ed x) (eK Qd) (startD N__law_ranks ds) := by
  obtain ⟨x, rfl, ⟨ns, hx, few, q⟩ | ⟨ks, rfl, few, ne, q⟩⟩ := h
  · unfold d__law_ranks
    repeat decreasing_trivial_pre_omega
    refine .inl ?_
    refine ⟨_, _, rfl, rfl, ns, (isSeqI_cases hx).symm.imp (fun z => by rw [z]) (fun z => by rw [z]), by omega, Nat.lt_of_le_of_lt (canon_len ns) few, .inl rfl, ?_⟩
    repeat decreasing_trivial_pre_omega
    refine rVarI rfl hx ⟨?_, ?_⟩
    · rw [List.length_map]
      omega
    · refine lcD_map (rankI (canon ns)) (fun _ => true) _ [] (fun d hd R hR => ?_) ?_
      · obtain ⟨n, hn, rfl⟩ := List.mem_map.mp hd
        obtain ⟨f1, f2⟩ := idx_at (S := canon ns) (mem_canon.mpr hn)
        refine ⟨_, _, rfl, rfl, _, rfl, _, _, rfl, rfl, (canon ns).findIdx (fun c => c == n), .int n, okI_int.ok, okL_I _, by rw [List.getElem?_map, f2]; rfl, eqD_refl okI_int.ok.1, no_eqI, rfl, hR⟩
      · rw [List.nil_append, map_rankI]
        exact ⟨_, rfl, q _ rks_I⟩
  · unfold d__law_ranks
    repeat decreasing_trivial_pre_omega
    refine .inr ?_
    refine sortT (i := 0) rfl few ne fun S asc mem sl => ⟨.inl rfl, ?_⟩
    repeat decreasing_trivial_pre_omega
    refine ⟨?_, ?_⟩
    · rw [List.length_map]
      omega
    · refine lcD_map (rankT S) (fun _ => true) _ [] (fun d hd R hR => ?_) ?_
      · obtain ⟨k, hk, rfl⟩ := List.mem_map.mp hd
        obtain ⟨f1, f2⟩ := idx_at (S := S) ((mem k).mpr hk)
        rw [rankT_at] at hR
        refine ⟨_, _, rfl, rfl, _, rfl, _, _, rfl, rfl, S.findIdx (fun c => c == k), tupI k, (ok_T k).ok, okL_T _, by rw [List.getElem?_map, f2]; rfl, eqD_refl (ok_T k).ok.1, no_eqT, rfl, hR⟩
      · rw [List.nil_append, map_rankT]
        exact ⟨_, rfl, q _ (rks_T asc mem)⟩
end K65

namespace K65
open PySem PySem.Spec PyProof.Rows L2 Dl Ns Zs Zz Rk Rd
local macro_rules
  | `(tactic| decreasing_trivial_pre_omega) => `(tactic| first
  | ((with_reducible apply Rd.rVar); (rfl); (rfl))
  | (with_reducible refine Rd.rC ?_)
  | (with_reducible refine Rd.rCons ?_)
  | (with_reducible refine Rd.rNil ?_)
  | (with_reducible refine Rd.rInts ?_)
  | (with_reducible refine Rd.rOp ?_)
  | (with_reducible refine Rd.rUn ?_)
  | (with_reducible refine Rd.rNeg ?_)
  | (with_reducible refine Rd.rTest ?_)
  | (with_reducible refine Rd.rB ?_)
  | (with_reducible refine Rd.rEx ?_)
  | (with_reducible refine Rd.rAnd ?_)
  | (with_reducible refine Rd.rOr ?_)
  | (with_reducible refine Rd.rNot ?_)
  | (with_reducible refine Rd.rYes ?_)
  | (with_reducible refine Rd.rAndV ?_)
  | (with_reducible refine Rd.rOrV ?_)
  | (with_reducible refine Rd.rNotV ?_)
  | (with_reducible refine Rd.rIfE ?_)
  | (with_reducible refine Rd.rTup ?_)
  | (with_reducible refine Rd.rLst ?_)
  | (with_reducible refine Rd.rFLst ?_)
  | ((with_reducible refine Rd.rSz ?_ ?_); (first | decide | exact of_decide_eq_true rfl))
  | (with_reducible refine Rd.rF ?_)
  | (with_reducible refine Rd.rCB ?_)
  | (with_reducible refine Rd.rCall ?_)
  | (with_reducible refine Rd.rSl ?_)
  | (with_reducible refine Rd.rNoP ?_)
  | (with_reducible refine Rd.rPart ?_)
  | (with_reducible refine Rd.rExI ?_)
  | (with_reducible refine Rd.rSub ?_)
  | (with_reducible refine Rd.rAdd ?_)
  | (with_reducible refine Rd.rLt ?_)
  | (with_reducible refine Rd.rEqI ?_)
  | (with_reducible refine Rd.rLenT ?_)
  | (with_reducible refine Rd.rLenL ?_)
  | (with_reducible refine Rd.rTupT ?_)
  | (with_reducible refine Rd.rTupL ?_)
  | (with_reducible refine Rd.rLstT ?_)
  | (with_reducible refine Rd.rLstL ?_)
  | (with_reducible refine Rd.rSeq ?_)
  | (with_reducible refine Rd.rNext ?_)
  | (with_reducible refine Rd.rRet ?_)
  | (with_reducible refine Rd.rIf ?_)
  | (with_reducible refine Rd.rAsg ?_)
  | ((with_reducible refine Rd.rKeep ?_ ?_); (first | exact Or.inl rfl | exact Or.inr rfl | assumption))
  | (with_reducible refine Rd.rNew ?_)
  | ((with_reducible refine Rd.rNewK ?_ ?_ ?_); (exact Nat.le_of_ble_eq_true rfl); (first | exact Or.inl rfl | exact Or.inr rfl | assumption))
  | (with_reducible refine Rd.rYesT ?_)
  | (with_reducible refine Rd.rNoT ?_)
  | (with_reducible refine Rd.rN1 ?_)
  | (with_reducible refine Rd.rN2 ?_)
  | (with_reducible refine Rd.rX1 ?_)
  | (with_reducible refine Rd.rX2 ?_)
  | (with_reducible refine Rd.rX3 ?_)
  | (with_reducible refine Rd.rX4 ?_)
  | (with_reducible refine Rd.rLc ?_)
  | (with_reducible refine Rd.rDn ?_)
  | (with_reducible refine Rd.rEnum ?_)
  | (with_reducible refine Rd.rSeqI ?_)
  | (with_reducible refine Rd.rDrop ?_)
  | (with_reducible refine Rd.rFor ?_)
  | ((with_reducible apply Rd.rVarI); (rfl); (rfl))
  | (with_reducible refine Rd.rGdN ?_)
  | ((with_reducible refine Rd.rGdT ?_ ?_); (rfl))
  | (with_reducible refine Rd.rRng ?_)
  | ((with_reducible refine Rd.rKeep ?_ ?_); (exact Or.inr (tI_good _).2.2)))
theorem std_seq {x : D} {ns : List Int} (h : isSeqI x ns) : bLen [x] = bLen [.lst (ns.map D.int)] := by
  rcases isSeqI_cases h with rfl | rfl
  · funext Q
    apply propext
    constructor
    · rintro ⟨y, e, h⟩; cases e; exact ⟨_, rfl, h⟩
    · rintro ⟨y, e, h⟩; cases e; exact ⟨_, rfl, h⟩
  · rfl
theorem ct_check_over {K : PySem.W.Frag} {ds : List D} {Qd : D → Prop} {Ed : Exc → Prop} (h : C_check_over K ds Qd Ed) : d_check_over K (fun _ x => Ed x) ⟨fun _ => Qd .non, Qd, fun _ => False, fun _ => False⟩ (startD N_check_over ds) := by
  obtain ⟨one, cut, other, rfl, q⟩ := h
  unfold d_check_over
  repeat decreasing_trivial_pre_omega
  refine ⟨one, rfl, stdAsk_mono q fun ns std hs q => ?_⟩
  obtain ⟨hc, q⟩ := q
  repeat decreasing_trivial_pre_omega
  refine ⟨_, _, _, rfl, hc, trivial, trivial, ?_⟩
  repeat decreasing_trivial_pre_omega
  by_cases c1 : isWh cut (.int 0) (.int (topI ns + 1)) = true
  · rw [if_pos c1] at q
    refine it_f (by rw [c1]; rfl) ?_
    repeat decreasing_trivial_pre_omega
    refine ⟨_, _, rfl, stdAsk_mono q fun ms std2 hs2 q => ?_⟩
    repeat decreasing_trivial_pre_omega
    rw [std_seq hs]
    repeat decreasing_trivial_pre_omega
    rw [std_seq hs2]
    repeat decreasing_trivial_pre_omega
    rw [List.length_map, List.length_map]
    by_cases c2 : ns.length = ms.length
    · rw [if_pos c2] at q
      refine it_f (by rw [decide_eq_true (by omega)]; rfl) ?_
      repeat decreasing_trivial_pre_omega
      cases cut <;> first | (simp [isWh] at c1; done) | skip
      exact q _ rfl
    · rw [if_neg c2] at q
      exact it_t (by rw [decide_eq_false (by omega)]; rfl) q
  · rw [if_neg c1] at q
    exact it_t (by rw [Bool.eq_false_iff.mpr c1]; rfl) q
def key3 (c : Int) (d : D) : D := match d with
  | .tup [.int a, .int b] => if a < c then tupI [0, a, b] else tupI [1, b, a]
  | _ => .non
theorem zip_keys : ∀ (ns ms : List Int) (c : Int), ((zipD (ns.map D.int) (ms.map D.int)).filter fun _ => true).map (key3 c) = (keys3 ns c ms).map tupI
  | [], _, c => rfl
  | _ :: _, [], c => rfl
  | a :: ns, b :: ms, c => by
    rw [List.map_cons, List.map_cons]
    show key3 c _ :: _ = tupI (if a < c then _ else _) :: _
    have ih := zip_keys ns ms c
    unfold keys3 at ih
    rw [← ih]
    by_cases h : a < c
    · rw [if_pos h]
      show (if a < c then _ else _) :: _ = _
      rw [if_pos h]
    · rw [if_neg h]
      show (if a < c then _ else _) :: _ = _
      rw [if_neg h]
theorem keys3_len {ns ms : List Int} {c : Int} (h : ns.length = ms.length) : (keys3 ns c ms).length = ns.length := by
  unfold keys3
  rw [List.length_zipWith]
  omega
theorem keys3_ne {c : Int} : ∀ {ns ms : List Int} {k : List Int}, k ∈ keys3 ns c ms → k ≠ []
  | [], _, k, h => by cases h
  | _ :: _, [], k, h => by cases h
  | a :: ns, b :: ms, k, h => by
    rcases List.mem_cons.mp (show k ∈ (if a < c then [0, a, b] else [1, b, a]) :: keys3 ns c ms from h) with e | h
    · rw [e]; split <;> simp
    · exact keys3_ne h
theorem mem_zipD : ∀ {ns ms : List Int} {d : D}, d ∈ zipD (ns.map D.int) (ms.map D.int) → ∃ a b, d = tupI [a, b]
  | [], _, d, h => by cases h
  | _ :: _, [], d, h => by cases h
  | a :: ns, b :: ms, d, h => by
    rcases List.mem_cons.mp (show d ∈ D.tup [.int a, .int b] :: zipD (ns.map D.int) (ms.map D.int) from h) with e | h
    · exact ⟨a, b, e⟩
    · exact mem_zipD h
theorem ct__sorting_of {K : PySem.W.Frag} {ds : List D} {Qd : D → Prop} {Ed : Exc → Prop} (h : C__sorting_of K ds Qd Ed) : d__sorting_of K (fun _ x => Ed x) (eK Qd) (startD N__sorting_of ds) := by
  obtain ⟨x, y, c, ns, ms, rfl, hx, hy, hl, few, q⟩ := h
  unfold d__sorting_of
  repeat decreasing_trivial_pre_omega
  refine ⟨x, y, ns.map D.int, ms.map D.int, rfl, rfl, hx, hy, ?_, ?_⟩
  · rw [zipD_len, List.length_map, List.length_map]
    omega
  · refine lcD_map (key3 c) (fun _ => true) _ [] (fun d hd R hR => ?_) ?_
    · obtain ⟨a, b, rfl⟩ := mem_zipD hd
      refine ⟨_, rfl, rfl, ?_⟩
      repeat decreasing_trivial_pre_omega
      have eR : key3 c (tupI [a, b]) = if a < c then tupI [0, a, b] else tupI [1, b, a] := rfl
      rw [if_pos rfl, eR] at hR
      by_cases h : a < c
      · rw [if_pos h] at hR
        refine it_t (decide_eq_true h) ?_
        repeat decreasing_trivial_pre_omega
        exact ⟨rfl, hR⟩
      · rw [if_neg h] at hR
        refine it_f (decide_eq_false h) ?_
        repeat decreasing_trivial_pre_omega
        exact ⟨rfl, hR⟩
    · rw [List.nil_append, zip_keys]
      repeat decreasing_trivial_pre_omega
      exact ⟨_, rfl, by rw [keys3_len hl]; exact few, fun k hk => keys3_ne hk, q⟩
theorem ct_sorted_over {K : PySem.W.Frag} {ds : List D} {Qd : D → Prop} {Ed : Exc → Prop} (h : C_sorted_over K ds Qd Ed) : d_sorted_over K (fun _ x => Ed x) (eK Qd) (startD N_sorted_over ds) := by
  obtain ⟨one, cut, other, rfl, q⟩ := h
  unfold d_sorted_over
  repeat decreasing_trivial_pre_omega
  refine ⟨one, cut, other, rfl, stdAsk_mono q fun ns std hs q => ⟨q.1, ?_⟩⟩
  have q := q.2
  by_cases c1 : isWh cut (.int 0) (.int (topI ns + 1)) = true
  · rw [if_pos c1] at q ⊢
    refine stdAsk_mono q fun ms std2 hs2 q => ?_
    by_cases c2 : ns.length = ms.length
    · rw [if_pos c2] at q ⊢
      intro c ec
      subst ec
      repeat decreasing_trivial_pre_omega
      exact ⟨_, _, _, _, _, rfl, hs, hs2, c2, by have := std.few; omega, q c rfl⟩
    · rw [if_neg c2] at q ⊢
      exact q
  · rw [if_neg c1] at q ⊢
    exact q
end K65

namespace K65
open PySem PySem.Spec PyProof.Rows L2 Dl Ns Zs Zz Rk Rd
local macro_rules
  | `(tactic| decreasing_trivial_pre_omega) => `(tactic| first
  | ((with_reducible apply Rd.rVar); (rfl); (rfl))
  | (with_reducible refine Rd.rC ?_)
  | (with_reducible refine Rd.rCons ?_)
  | (with_reducible refine Rd.rNil ?_)
  | (with_reducible refine Rd.rInts ?_)
  | (with_reducible refine Rd.rOp ?_)
  | (with_reducible refine Rd.rUn ?_)
  | (with_reducible refine Rd.rNeg ?_)
  | (with_reducible refine Rd.rTest ?_)
  | (with_reducible refine Rd.rB ?_)
  | (with_reducible refine Rd.rEx ?_)
  | (with_reducible refine Rd.rAnd ?_)
  | (with_reducible refine Rd.rOr ?_)
  | (with_reducible refine Rd.rNot ?_)
  | (with_reducible refine Rd.rYes ?_)
  | (with_reducible refine Rd.rAndV ?_)
  | (with_reducible refine Rd.rOrV ?_)
  | (with_reducible refine Rd.rNotV ?_)
  | (with_reducible refine Rd.rIfE ?_)
  | (with_reducible refine Rd.rTup ?_)
  | (with_reducible refine Rd.rLst ?_)
  | (with_reducible refine Rd.rFLst ?_)
  | ((with_reducible refine Rd.rSz ?_ ?_); (first | decide | exact of_decide_eq_true rfl))
  | (with_reducible refine Rd.rF ?_)
  | (with_reducible refine Rd.rCB ?_)
  | (with_reducible refine Rd.rCall ?_)
  | (with_reducible refine Rd.rSl ?_)
  | (with_reducible refine Rd.rNoP ?_)
  | (with_reducible refine Rd.rPart ?_)
  | (with_reducible refine Rd.rExI ?_)
  | (with_reducible refine Rd.rSub ?_)
  | (with_reducible refine Rd.rAdd ?_)
  | (with_reducible refine Rd.rLt ?_)
  | (with_reducible refine Rd.rEqI ?_)
  | (with_reducible refine Rd.rLenT ?_)
  | (with_reducible refine Rd.rLenL ?_)
  | (with_reducible refine Rd.rTupT ?_)
  | (with_reducible refine Rd.rTupL ?_)
  | (with_reducible refine Rd.rLstT ?_)
  | (with_reducible refine Rd.rLstL ?_)
  | (with_reducible refine Rd.rSeq ?_)
  | (with_reducible refine Rd.rNext ?_)
  | (with_reducible refine Rd.rRet ?_)
  | (with_reducible refine Rd.rIf ?_)
  | (with_reducible refine Rd.rAsg ?_)
  | ((with_reducible refine Rd.rKeep ?_ ?_); (first | exact Or.inl rfl | exact Or.inr rfl | assumption))
  | (with_reducible refine Rd.rNew ?_)
  | ((with_reducible refine Rd.rNewK ?_ ?_ ?_); (exact Nat.le_of_ble_eq_true rfl); (first | exact Or.inl rfl | exact Or.inr rfl | assumption))
  | (with_reducible refine Rd.rYesT ?_)
  | (with_reducible refine Rd.rNoT ?_)
  | (with_reducible refine Rd.rN1 ?_)
  | (with_reducible refine Rd.rN2 ?_)
  | (with_reducible refine Rd.rX1 ?_)
  | (with_reducible refine Rd.rX2 ?_)
  | (with_reducible refine Rd.rX3 ?_)
  | (with_reducible refine Rd.rX4 ?_)
  | (with_reducible refine Rd.rLc ?_)
  | (with_reducible refine Rd.rDn ?_)
  | (with_reducible refine Rd.rEnum ?_)
  | (with_reducible refine Rd.rSeqI ?_)
  | (with_reducible refine Rd.rDrop ?_)
  | (with_reducible refine Rd.rFor ?_)
  | ((with_reducible apply Rd.rVarI); (rfl); (rfl))
  | (with_reducible refine Rd.rGdN ?_)
  | ((with_reducible refine Rd.rGdT ?_ ?_); (rfl))
  | (with_reducible refine Rd.rRng ?_)
  | ((with_reducible refine Rd.rKeep ?_ ?_); (exact Or.inr (tI_good _).2.2)))
theorem stdAsk_both {K : PySem.W.Frag} {x pl : D} {Q Q' : List Int → Prop} {E E' : Exc → Prop} (h : stdAsk K x pl Q E) (k : ∀ ns, Std ns → isSeqI x ns → Q ns → Q' ns) (e : ∀ z, E z → E' z) : stdAsk K x pl Q' E' := by
  obtain ⟨h1, h2, h⟩ := stdAsk_mono h k
  refine ⟨h1, h2, ?_⟩
  cases hs : seqOf x with
  | none => rw [hs] at h; exact e _ h
  | some xs =>
    rw [hs] at h
    dsimp only at h ⊢
    obtain ⟨hty, h⟩ := h
    refine ⟨hty, ?_⟩
    by_cases c1 : 7 < xs.length
    · rw [if_pos c1] at h ⊢; exact e _ h
    · rw [if_neg c1] at h ⊢
      by_cases c2 : offLen pl xs.length = true
      · rw [if_pos c2] at h ⊢; exact e _ h
      · rw [if_neg c2] at h ⊢
        cases hf : fstBad (fun _ d => !isWh d (.int 0) .non) [] xs with
        | some i => rw [hf] at h; exact e _ h
        | none =>
          rw [hf] at h
          dsimp only at h ⊢
          obtain ⟨ns, en, h⟩ := h
          refine ⟨ns, en, ?_⟩
          by_cases c3 : ((canon ns).length : Int) = topI ns + 1
          · rw [if_pos c3] at h ⊢; exact h
          · rw [if_neg c3] at h ⊢; exact e _ h
theorem overAsk_mono {K : PySem.W.Frag} {one cut other : D} {Q Q' : List Int → Int → List Int → Prop} {E E' : Exc → Prop} (h : overAsk K one cut other Q E)
    (k : ∀ ns c ms, Std ns → Std ms → isSeqI one ns → isSeqI other ms → ns.length = ms.length → cut = .int c → Q ns c ms → Q' ns c ms) (e : ∀ z, E z → E' z) : overAsk K one cut other Q' E' := by
  refine stdAsk_both h (fun ns std hs q => ⟨q.1, ?_⟩) e
  have q := q.2
  by_cases c1 : isWh cut (.int 0) (.int (topI ns + 1)) = true
  · rw [if_pos c1] at q ⊢
    refine stdAsk_both q (fun ms std2 hs2 q => ?_) e
    by_cases c2 : ns.length = ms.length
    · rw [if_pos c2] at q ⊢
      exact fun c ec => k ns c ms std std2 hs hs2 c2 ec (q c ec)
    · rw [if_neg c2] at q ⊢
      exact e _ q
  · rw [if_neg c1] at q ⊢
    exact e _ q
theorem ct__law_word {K : PySem.W.Frag} (X : Xs K) {ds : List D} {Qd : D → Prop} {Ed : Exc → Prop} (h : C__law_word K ds Qd Ed) : d__law_word K (fun _ x => Ed x) (eK Qd) (startD N__law_word ds) := by
  obtain ⟨one, cut, other, rfl, q⟩ := h
  unfold d__law_word
  repeat decreasing_trivial_pre_omega
  unfold Tm.sMix
  repeat decreasing_trivial_pre_omega
  refine ⟨one, cut, other, rfl, overAsk_mono q (fun ns c ms _ _ _ _ _ _ q rs _ => ?_) fun z hz => ?_⟩
  · repeat decreasing_trivial_pre_omega
    exact q
  · rcases hz with ⟨i, rfl, q⟩ | ⟨rfl, q⟩ | ⟨rfl, q⟩
    · refine ⟨true, X.ss, fun _ => ⟨.inl rfl, fun a d hd => ?_⟩, fun z => by cases z⟩
      repeat decreasing_trivial_pre_omega
      unfold dXf
      repeat decreasing_trivial_pre_omega
      refine ⟨rfl, X.xf, X.ix, _, .int i, rfl, hd.symm.trans rfl, rfl, ?_⟩
      repeat decreasing_trivial_pre_omega
      exact q
    · refine ⟨false, X.cs, fun z => (by cases z), fun _ => ⟨true, X.cc, fun _ => ⟨trivial, fun a d hd => ?_⟩, fun z => by cases z⟩⟩
      repeat decreasing_trivial_pre_omega
      exact q
    · refine ⟨false, X.os, fun z => (by cases z), fun _ => ⟨false, X.oc, fun z => (by cases z), fun _ => ⟨true, X.oo, fun _ => ⟨trivial, fun a d hd => ?_⟩, fun z => by cases z⟩⟩⟩
      repeat decreasing_trivial_pre_omega
      exact q
theorem tm_all {n : String} (h : n ∈ tyNames) {t : String} {x : D} {Q : D → Prop} (e : x.tyn = some t) (q : Q (.bl (isiB t n))) : bIsi [x, .ty n] Q := ⟨_, _, rfl, t, e, h, q⟩
theorem ct__law_plain {K : PySem.W.Frag} {ds : List D} {Qd : D → Prop} {Ed : Exc → Prop} (h : C__law_plain K ds Qd Ed) : d__law_plain K (fun _ x => Ed x) (eK Qd) (startD N__law_plain ds) := by
  obtain ⟨rs, n, rfl, few, q⟩ := h
  unfold d__law_plain
  repeat decreasing_trivial_pre_omega
  refine tm_all (by simp [tyNames]) rfl ⟨_, rfl, it_t (by decide) ?_⟩
  repeat decreasing_trivial_pre_omega
  rw [List.length_map]
  by_cases c : (rs.length : Int) = n
  · rw [decide_eq_true c] at q ⊢
    refine it_t rfl ?_
    repeat decreasing_trivial_pre_omega
    refine ⟨by rw [List.length_map]; omega, lcD_map (fun d => .bl (isWh d .non .non)) (fun _ => true) _ [] (fun d hd R hR => ?_) ?_⟩
    · obtain ⟨i, hi, rfl⟩ := List.mem_map.mp hd
      exact ⟨_, _, rfl, rfl, _, rfl, rfl, rfl, hR⟩
    · repeat decreasing_trivial_pre_omega
      refine ⟨rs.map fun _ => true, ?_, ?_⟩
      · rw [List.nil_append, List.filter_eq_self.mpr (fun _ _ => rfl), List.map_map, List.map_map]
        rfl
      · have : ((rs.map fun _ => true).all id) = true := List.all_eq_true.mpr fun x hx => by
          obtain ⟨_, _, rfl⟩ := List.mem_map.mp hx
          rfl
        rw [this]
        exact q
  · rw [decide_eq_false c] at q ⊢
    exact it_f rfl q
theorem ct__law_turned {K : PySem.W.Frag} {ds : List D} {Qd : D → Prop} {Ed : Exc → Prop} (h : C__law_turned K ds Qd Ed) : d__law_turned K (fun _ x => Ed x) (eK Qd) (startD N__law_turned ds) := by
  obtain ⟨ns, rfl, pos, few, q⟩ := h
  unfold d__law_turned
  repeat decreasing_trivial_pre_omega
  refine ⟨by rw [List.length_map]; omega, lcD_map (fun d => match d with | .int n => .int (topI ns - n) | _ => .non) (fun _ => true) _ [] (fun d hd R hR => ?_) ?_⟩
  · obtain ⟨n, hn, rfl⟩ := List.mem_map.mp hd
    repeat decreasing_trivial_pre_omega
    refine ⟨ns, .inr rfl, fun e => (by rw [e] at hn; cases hn), fun m t => ?_⟩
    rw [topI_top pos t]
    repeat decreasing_trivial_pre_omega
    exact ⟨rfl, hR⟩
  · repeat decreasing_trivial_pre_omega
    have e : ((ns.map D.int).filter fun _ => true).map (fun d => match d with | .int n => D.int (topI ns - n) | _ => .non) = (turnedI ns).map D.int := by
      rw [List.filter_eq_self.mpr (fun _ _ => rfl), turnedI, List.map_map, List.map_map]
      rfl
    rw [List.nil_append, e]
    exact q
theorem sel_id : ∀ (xs pre : List D), sel (fun _ _ => true) (fun _ d => d) pre xs = xs
  | [], _ => rfl
  | x :: xs, pre => by
    show x :: sel _ _ (pre ++ [x]) xs = _
    rw [sel_id xs]
theorem keys3_at {ns ms : List Int} {c : Int} {j : Nat} {k : List Int} (h : (keys3 ns c ms)[j]? = some k) : ∃ a b, ns[j]? = some a ∧ ms[j]? = some b ∧ k = if a < c then [0, a, b] else [1, b, a] := by
  unfold keys3 at h
  rw [List.getElem?_zipWith] at h
  cases ha : ns[j]? with
  | none => rw [ha] at h; cases h
  | some a =>
    cases hb : ms[j]? with
    | none => rw [ha, hb] at h; cases h
    | some b =>
      rw [ha, hb] at h
      exact ⟨a, b, rfl, rfl, (Option.some.inj h).symm⟩
theorem atI_of {ns : List Int} {j : Nat} {a : Int} (h : ns[j]? = some a) : atI (ns.map D.int) (j : Int) = some (.int a) := by
  have hl := (List.getElem?_eq_some_iff.mp h).1
  rw [atI_nat (by rw [List.length_map]; exact hl), List.getElem_map]
  obtain ⟨_, e⟩ := List.getElem?_eq_some_iff.mp h
  rw [e]
theorem rIxT {xs : List D} {i : Int} {d : D} {Q : D → Prop} (h : atI xs i = some d) (q : Q d) : fIx (.tup xs) (.int i) Q := ⟨i, rfl, d, h, q⟩
theorem rIxL {xs : List D} {i : Int} {d : D} {Q : D → Prop} (h : atI xs i = some d) (q : Q d) : fIx (.lst xs) (.int i) Q := ⟨i, rfl, d, h, q⟩
theorem ct__law_sorted {K : PySem.W.Frag} {ds : List D} {Qd : D → Prop} {Ed : Exc → Prop} (h : C__law_sorted K ds Qd Ed) : d__law_sorted K (fun _ x => Ed x) (eK Qd) (startD N__law_sorted ds) := by
  obtain ⟨ns, c, ms, rfl, hl, few, q⟩ := h
  unfold d__law_sorted
  repeat decreasing_trivial_pre_omega
  have kl := keys3_len (c := c) hl
  refine ⟨_, rfl, by rw [List.length_map]; omega, ?_, ?_⟩
  · unfold rngD
    rw [List.length_map, List.length_range, List.length_map]
    omega
  · have e : rngD 0 (Int.toNat ((ns.map D.int).length : Int)) = rngD (([] : List D).length : Nat) ((keys3 ns c ms).map tupI).length := by
      rw [List.length_map, List.length_map, kl]
      rfl
    rw [e]
    refine rng_lc (fun _ _ => true) (fun _ d => d) (fun pre d suf R e hR => ?_) _ [] [] rfl ?_
    · have hj : ((keys3 ns c ms).map tupI)[pre.length]? = some d := by rw [show (keys3 ns c ms).map tupI = pre ++ d :: suf from e]; simp
      rw [List.getElem?_map] at hj
      obtain ⟨k, hk, rfl⟩ := Option.map_eq_some_iff.mp hj
      obtain ⟨a, b, ha, hb, rfl⟩ := keys3_at hk
      rw [if_pos rfl] at hR
      repeat decreasing_trivial_pre_omega
      refine rIxT (atI_of ha) ?_
      repeat decreasing_trivial_pre_omega
      by_cases h : a < c
      · rw [if_pos h] at hR
        refine it_t (decide_eq_true h) ?_
        repeat decreasing_trivial_pre_omega
        refine rIxT (atI_of ha) ?_
        repeat decreasing_trivial_pre_omega
        refine rIxT (atI_of hb) ?_
        repeat decreasing_trivial_pre_omega
        exact ⟨rfl, hR⟩
      · rw [if_neg h] at hR
        refine it_f (decide_eq_false h) ?_
        repeat decreasing_trivial_pre_omega
        refine rIxT (atI_of hb) ?_
        repeat decreasing_trivial_pre_omega
        refine rIxT (atI_of ha) ?_
        repeat decreasing_trivial_pre_omega
        exact ⟨rfl, hR⟩
    · rw [sel_id, List.nil_append]
      repeat decreasing_trivial_pre_omega
      exact ⟨_, rfl, .inr ⟨_, rfl, by rw [kl]; exact few, fun k hk => keys3_ne hk, q⟩⟩
end K65

namespace K65
open PySem PySem.Spec PyProof.Rows L2 Dl Ns Zs Zz Rk Rd
local macro_rules
  | `(tactic| decreasing_trivial_pre_omega) => `(tactic| first
  | ((with_reducible apply Rd.rVar); (rfl); (rfl))
  | (with_reducible refine Rd.rC ?_)
  | (with_reducible refine Rd.rCons ?_)
  | (with_reducible refine Rd.rNil ?_)
  | (with_reducible refine Rd.rInts ?_)
  | (with_reducible refine Rd.rOp ?_)
  | (with_reducible refine Rd.rUn ?_)
  | (with_reducible refine Rd.rNeg ?_)
  | (with_reducible refine Rd.rTest ?_)
  | (with_reducible refine Rd.rB ?_)
  | (with_reducible refine Rd.rEx ?_)
  | (with_reducible refine Rd.rAnd ?_)
  | (with_reducible refine Rd.rOr ?_)
  | (with_reducible refine Rd.rNot ?_)
  | (with_reducible refine Rd.rYes ?_)
  | (with_reducible refine Rd.rAndV ?_)
  | (with_reducible refine Rd.rOrV ?_)
  | (with_reducible refine Rd.rNotV ?_)
  | (with_reducible refine Rd.rIfE ?_)
  | (with_reducible refine Rd.rTup ?_)
  | (with_reducible refine Rd.rLst ?_)
  | (with_reducible refine Rd.rFLst ?_)
  | ((with_reducible refine Rd.rSz ?_ ?_); (first | decide | exact of_decide_eq_true rfl))
  | (with_reducible refine Rd.rF ?_)
  | (with_reducible refine Rd.rCB ?_)
  | (with_reducible refine Rd.rCall ?_)
  | (with_reducible refine Rd.rSl ?_)
  | (with_reducible refine Rd.rNoP ?_)
  | (with_reducible refine Rd.rPart ?_)
  | (with_reducible refine Rd.rExI ?_)
  | (with_reducible refine Rd.rSub ?_)
  | (with_reducible refine Rd.rAdd ?_)
  | (with_reducible refine Rd.rLt ?_)
  | (with_reducible refine Rd.rEqI ?_)
  | (with_reducible refine Rd.rLenT ?_)
  | (with_reducible refine Rd.rLenL ?_)
  | (with_reducible refine Rd.rTupT ?_)
  | (with_reducible refine Rd.rTupL ?_)
  | (with_reducible refine Rd.rLstT ?_)
  | (with_reducible refine Rd.rLstL ?_)
  | (with_reducible refine Rd.rSeq ?_)
  | (with_reducible refine Rd.rNext ?_)
  | (with_reducible refine Rd.rRet ?_)
  | (with_reducible refine Rd.rIf ?_)
  | (with_reducible refine Rd.rAsg ?_)
  | ((with_reducible refine Rd.rKeep ?_ ?_); (first | exact Or.inl rfl | exact Or.inr rfl | assumption))
  | (with_reducible refine Rd.rNew ?_)
  | ((with_reducible refine Rd.rNewK ?_ ?_ ?_); (exact Nat.le_of_ble_eq_true rfl); (first | exact Or.inl rfl | exact Or.inr rfl | assumption))
  | (with_reducible refine Rd.rYesT ?_)
  | (with_reducible refine Rd.rNoT ?_)
  | (with_reducible refine Rd.rN1 ?_)
  | (with_reducible refine Rd.rN2 ?_)
  | (with_reducible refine Rd.rX1 ?_)
  | (with_reducible refine Rd.rX2 ?_)
  | (with_reducible refine Rd.rX3 ?_)
  | (with_reducible refine Rd.rX4 ?_)
  | (with_reducible refine Rd.rLc ?_)
  | (with_reducible refine Rd.rDn ?_)
  | (with_reducible refine Rd.rEnum ?_)
  | (with_reducible refine Rd.rSeqI ?_)
  | (with_reducible refine Rd.rDrop ?_)
  | (with_reducible refine Rd.rFor ?_)
  | ((with_reducible apply Rd.rVarI); (rfl); (rfl))
  | (with_reducible refine Rd.rGdN ?_)
  | ((with_reducible refine Rd.rGdT ?_ ?_); (rfl))
  | (with_reducible refine Rd.rRng ?_)
  | ((with_reducible refine Rd.rKeep ?_ ?_); (exact Or.inr (tI_good _).2.2)))
def longer (k : Nat) (T : List (List Int)) : List (List Int) := T.flatMap fun p => (List.range k).map fun r => p ++ [((r : Nat) : Int)]
def stepL (k : Nat) : Nat → List (List Int)
  | 0 => [[]]
  | l + 1 => (longer k (stepL k l)).filter fun p => decide (gap p ≤ (k : Int) - 1 - (l : Nat))
theorem mem_longer {k : Nat} {T : List (List Int)} {p : List Int} : p ∈ longer k T ↔ ∃ q r, q ∈ T ∧ 0 ≤ r ∧ r < (k : Int) ∧ p = q ++ [r] := by
  unfold longer
  rw [List.mem_flatMap]
  constructor
  · rintro ⟨q, hq, h⟩
    obtain ⟨r, hr, rfl⟩ := List.mem_map.mp h
    exact ⟨q, r, hq, by omega, by have := List.mem_range.mp hr; omega, rfl⟩
  · rintro ⟨q, r, hq, r0, r1, rfl⟩
    exact ⟨q, hq, List.mem_map.mpr ⟨r.toNat, List.mem_range.mpr (by omega), by rw [Int.toNat_of_nonneg r0]⟩⟩
def Way (k l : Nat) (p : List Int) : Prop := p.length = l ∧ (∀ n ∈ p, 0 ≤ n ∧ n < (k : Int)) ∧ ∀ q s, p = q ++ s → q ≠ [] → gap q ≤ (k : Int) - q.length
theorem mem_step {k : Nat} : ∀ {l : Nat} {p : List Int}, p ∈ stepL k l ↔ Way k l p
  | 0, p => by
    show p ∈ [[]] ↔ _
    rw [List.mem_singleton]
    constructor
    · rintro rfl
      exact ⟨rfl, fun n h => (by cases h), fun q s e hq => by
        have := congrArg List.length e
        simp at this
        exact absurd (List.length_eq_zero_iff.mp (by omega)) hq⟩
    · exact fun h => List.length_eq_zero_iff.mp h.1
  | l + 1, p => by
    show p ∈ (longer k (stepL k l)).filter _ ↔ _
    rw [List.mem_filter, mem_longer, decide_eq_true_iff]
    constructor
    · rintro ⟨⟨q, r, hq, r0, r1, rfl⟩, hg⟩
      obtain ⟨w1, w2, w3⟩ := mem_step.mp hq
      refine ⟨by rw [List.length_append, w1]; rfl, fun n hn => ?_, fun a s e ha => ?_⟩
      · rcases List.mem_append.mp hn with hn | hn
        · exact w2 n hn
        · rw [List.mem_singleton.mp hn]; exact ⟨r0, r1⟩
      · rcases List.append_eq_append_iff.mp e with ⟨as, e1, e2⟩ | ⟨as, e1, e2⟩
        · cases as with
          | nil =>
            rw [List.append_nil] at e1
            rw [e1]
            by_cases hz : q = []
            · exact absurd (e1.trans hz) ha
            · exact w3 q [] (by simp) hz
          | cons b bs =>
            rw [List.cons_append, List.cons.injEq] at e2
            have : bs = [] := List.append_eq_nil_iff.mp e2.2.symm |>.1
            subst this
            rw [e1, ← e2.1, List.length_append, w1]
            simp only [List.length_singleton]
            omega
        · exact w3 a as e1 ha
    · rintro ⟨w1, w2, w3⟩
      have ne : p ≠ [] := fun e => by rw [e] at w1; cases w1
      have ep := (List.dropLast_concat_getLast ne).symm
      refine ⟨⟨p.dropLast, p.getLast ne, mem_step.mpr ⟨by rw [List.length_dropLast, w1]; rfl, fun n hn => w2 n (List.dropLast_subset p hn), fun q s e hq => w3 q (s ++ [p.getLast ne]) (by rw [← List.append_assoc, ← e]; exact ep) hq⟩, (w2 _ (List.getLast_mem ne)).1, (w2 _ (List.getLast_mem ne)).2, ep⟩, ?_⟩
      have := w3 p [] (by simp) ne
      rw [w1] at this
      omega
theorem mem_all {k : Nat} (k1 : 1 ≤ k) {p : List Int} : p ∈ stepL k k ↔ p.length = k ∧ StdR p := by
  rw [mem_step]
  constructor
  · rintro ⟨w1, w2, w3⟩
    have ne : p ≠ [] := fun e => by rw [e] at w1; simp at w1; omega
    have := w3 p [] (by simp) ne
    exact ⟨w1, (std_gap fun n hn => (w2 n hn).1).mpr (by omega)⟩
  · rintro ⟨w1, st⟩
    refine ⟨w1, fun n hn => ⟨st.pos n hn, by have := std_lt st hn; omega⟩, fun q s e _ => ?_⟩
    have h1 := gap_app q s
    rw [← e] at h1
    have h2 := (std_gap st.pos).mp st
    have h3 := congrArg List.length e
    rw [List.length_append] at h3
    omega
theorem longer_len {k : Nat} : ∀ T : List (List Int), (longer k T).length = T.length * k
  | [] => by simp [longer]
  | p :: T => by
    have ih := longer_len (k := k) T
    unfold longer at ih ⊢
    rw [List.flatMap_cons, List.length_append, ih, List.length_map, List.length_range, List.length_cons, Nat.succ_mul]
    omega
theorem step_len {k : Nat} : ∀ l, (stepL k l).length ≤ k ^ l
  | 0 => Nat.le_refl _
  | l + 1 => by
    refine Nat.le_trans (List.length_filter_le _ _) ?_
    rw [longer_len, Nat.pow_succ]
    exact Nat.mul_le_mul_right k (step_len l)
theorem step_few {k l : Nat} (hk : k ≤ 5) (hl : l ≤ 5) : (stepL k l).length ≤ 3125 := by
  refine Nat.le_trans (step_len l) (Nat.le_trans (Nat.pow_le_pow_left hk l) ?_)
  exact Nat.le_trans (Nat.pow_le_pow_right (by omega) hl) (by decide)
theorem inner1 {Dd : DEnds} {k : Nat} {s0 s1 s2 s5 : Slot} {acc : List D} {p : List Int} (hk : k ≤ 5) (hp : p.length ≤ 5) (few : acc.length ≤ 100000) (nx : ∀ s5, Dd.nx [s0, s1, s2, .own (acc ++ ((List.range k).map fun r => p ++ [((r : Nat) : Int)]).map tupI), .val (tupI p), s5]) :
    forD (gdName 5) (sApp 3 (dOp fAdd (dVar 4) (dTup (dCons (dVar 5) dNil)))) Dd (rngD 0 k) [s0, s1, s2, .own acc, .val (tupI p), s5] := by
  have big : (200000 : Nat) ≤ sizeLine := by decide
  have hlen : (((List.range k).map fun r => p ++ [((r : Nat) : Int)]).map tupI).length = k := by rw [List.length_map, List.length_map, List.length_range]
  have go := rng_loop (i := 5) (tb := sApp 3 (dOp fAdd (dVar 4) (dTup (dCons (dVar 5) dNil)))) (Dd := Dd) (xs := ((List.range k).map fun r => p ++ [((r : Nat) : Int)]).map tupI)
    (fun pre env => ∃ s5, env = [s0, s1, s2, .own (acc ++ pre), .val (tupI p), s5]) (fun pre d suf env nx e hh kk => ?_) (fun env hh => ?_) (((List.range k).map fun r => p ++ [((r : Nat) : Int)]).map tupI) [] [s0, s1, s2, .own acc, .val (tupI p), s5] rfl ⟨s5, by rw [List.append_nil]⟩
  · rw [hlen] at go
    exact go
  · obtain ⟨s5, rfl⟩ := hh
    have hpre : pre.length < k := by
      have := congrArg List.length e
      rw [hlen, List.length_append, List.length_cons] at this
      omega
    have hd : d = tupI (p ++ [((pre.length : Nat) : Int)]) := by
      have h1 : (pre ++ d :: suf)[pre.length]? = some d := by simp
      rw [← e, List.getElem?_map, List.getElem?_map, List.getElem?_range hpre] at h1
      exact (Option.some.inj h1).symm
    refine rApp rfl ?_
    repeat decreasing_trivial_pre_omega
    refine ⟨?_, ?_⟩
    · rw [List.length_map]
      show p.length + 1 ≤ _
      omega
    · refine ⟨noLst_of fun x hx => ?_, ?_, kk _ ⟨.val (.int (pre.length : Nat)), ?_⟩⟩
      · rcases List.mem_append.mp hx with hx | hx
        · obtain ⟨n, _, rfl⟩ := List.mem_map.mp hx
          rfl
        · rw [List.mem_singleton.mp hx]
          rfl
      · rw [List.length_append]
        omega
      · rw [hd]
        simp
  · obtain ⟨s5, rfl⟩ := hh
    exact nx s5
theorem longer_snoc (k : Nat) (T : List (List Int)) (p : List Int) : longer k (T ++ [p]) = longer k T ++ (List.range k).map fun r => p ++ [((r : Nat) : Int)] := by
  unfold longer
  rw [List.flatMap_append]
  simp
theorem inner2 {Dd : DEnds} {k : Nat} {s1 s2 : Slot} (hk : k ≤ 5) {T : List (List Int)} (hT : T.length ≤ 3125) (hp : ∀ p ∈ T, p.length ≤ 5) (nx : ∀ s4 s5, Dd.nx [.val (.int k), s1, s2, .own ((longer k T).map tupI), s4, s5]) :
    ∀ (suf pre : List (List Int)) (s4 s5 : Slot), T = pre ++ suf →
      forD (gdName 4) (sFor (idRng1 (dCons (dVar 0) dNil)) (gdName 5) (sApp 3 (dOp fAdd (dVar 4) (dTup (dCons (dVar 5) dNil))))) Dd (suf.map tupI) [.val (.int k), s1, s2, .own ((longer k pre).map tupI), s4, s5]
  | [], pre, s4, s5, e => by
    rw [List.append_nil] at e
    rw [← e]
    exact nx s4 s5
  | p :: suf, pre, s4, s5, e => by
    have hl : pre.length ≤ 3125 := by
      have := congrArg List.length e
      rw [List.length_append] at this
      omega
    have hacc : ((longer k pre).map tupI).length ≤ 100000 := by
      rw [List.length_map, longer_len]
      have : pre.length * k ≤ 3125 * 5 := Nat.mul_le_mul hl hk
      omega
    show gdName 4 (tupI p) _ _
    repeat decreasing_trivial_pre_omega
    refine ⟨(k : Int), rfl, by omega, ?_⟩
    refine inner1 hk (hp p (by rw [e]; simp)) hacc fun s5 => ?_
    have := inner2 hk hT hp nx suf (pre ++ [p]) (.val (tupI p)) s5 (by rw [e]; simp)
    rw [longer_snoc, List.map_append] at this
    exact this
def gapD (m : Int) : D → Bool
  | .tup xs => decide (gap (intsOf xs) ≤ m)
  | _ => false
theorem filt_gap (m : Int) : ∀ T : List (List Int), ((T.map tupI).filter (gapD m)).map (fun d => d) = (T.filter fun p => decide (gap p ≤ m)).map tupI
  | [] => rfl
  | p :: T => by
    have ih := filt_gap m T
    rw [List.map_id'] at ih ⊢
    have e : gapD m (tupI p) = decide (gap p ≤ m) := by
      show decide (gap (intsOf (p.map D.int)) ≤ m) = _
      rw [intsOf_map]
    rw [List.map_cons, List.filter_cons, List.filter_cons, e]
    cases decide (gap p ≤ m) with
    | true => rw [if_pos rfl, if_pos rfl, List.map_cons, ih]
    | false => rw [if_neg (by decide), if_neg (by decide), ih]
theorem noL_T (T : List (List Int)) : noLstA (T.map tupI) = true := noLst_of fun x hx => by
  obtain ⟨p, _, rfl⟩ := List.mem_map.mp hx
  exact (tI_good p).2.2
theorem ct__law_standings {K : PySem.W.Frag} {ds : List D} {Qd : D → Prop} {Ed : Exc → Prop} (h : C__law_standings K ds Qd Ed) : d__law_standings K (fun _ x => Ed x) (eK Qd) (startD N__law_standings ds) := by
  obtain ⟨k, rfl, k1, k5, q⟩ := h
  unfold d__law_standings
  repeat decreasing_trivial_pre_omega
  refine ⟨(k : Int), rfl, by omega, ?_⟩
  have e : rngD 0 (Int.toNat (k : Int)) = rngD (([] : List D).length : Nat) (List.replicate k D.non).length := by
    rw [List.length_replicate]
    rfl
  rw [e]
  refine rng_loop (xs := List.replicate k D.non) (fun pre env => ∃ s2 s3 s4 s5, env = [.val (.int k), .own ((stepL k pre.length).map tupI), s2, s3, s4, s5]) (fun pre d suf env nx e hh kk => ?_) (fun env hh => ?_) (List.replicate k D.non) [] _ rfl ⟨_, _, _, _, rfl⟩
  · obtain ⟨s2, s3, s4, s5, rfl⟩ := hh
    have hpre : pre.length < k := by
      have := congrArg List.length e
      rw [List.length_replicate, List.length_append, List.length_cons] at this
      omega
    have few := step_few (k := k) (l := pre.length) k5 (by omega)
    repeat decreasing_trivial_pre_omega
    show sFor _ _ _ _ _
    repeat decreasing_trivial_pre_omega
    refine inner2 (s1 := .val (.lst ((stepL k pre.length).map tupI))) k5 few (fun p hp => by have := (mem_step.mp hp).1; omega) (fun s4 s5 => ?_) _ [] _ _ rfl
    repeat decreasing_trivial_pre_omega
    refine ⟨?_, ?_⟩
    · rw [List.length_map, longer_len]
      have : (stepL k pre.length).length * k ≤ 3125 * 5 := Nat.mul_le_mul few k5
      omega
    · refine lcD_map (fun d => d) (gapD ((k : Int) - 1 - (pre.length : Nat))) _ [] (fun d hd R hR => ?_) ?_
      · obtain ⟨p, hp, rfl⟩ := List.mem_map.mp hd
        obtain ⟨q', r, hq', r0, r1, rfl⟩ := mem_longer.mp hp
        obtain ⟨w1, w2, _⟩ := mem_step.mp hq'
        have pos : ∀ n ∈ q' ++ [r], 0 ≤ n := fun n hn => by
          rcases List.mem_append.mp hn with hn | hn
          · exact (w2 n hn).1
          · rw [List.mem_singleton.mp hn]; exact r0
        repeat decreasing_trivial_pre_omega
        refine ⟨q' ++ [r], .inr rfl, by simp, fun m t => ?_⟩
        rw [topI_top pos t]
        repeat decreasing_trivial_pre_omega
        refine ⟨_, _, rfl, rfl, q' ++ [r], .inr rfl, by rw [List.length_append, w1]; simp only [List.length_singleton]; omega, ?_⟩
        repeat decreasing_trivial_pre_omega
        have eg : gapD ((k : Int) - 1 - (pre.length : Nat)) (tupI (q' ++ [r])) = decide (topI (q' ++ [r]) + 1 - ((canon (q' ++ [r])).length : Int) ≤ (k : Int) - 1 - (pre.length : Nat)) := by
          show decide (gap (intsOf ((q' ++ [r]).map D.int)) ≤ _) = _
          rw [intsOf_map]
          rfl
        rw [eg] at hR
        cases hc : decide (topI (q' ++ [r]) + 1 - ((canon (q' ++ [r])).length : Int) ≤ (k : Int) - 1 - (pre.length : Nat)) with
        | true =>
          rw [hc] at hR
          refine it_t rfl ?_
          repeat decreasing_trivial_pre_omega
          exact ⟨(tI_good _).2.2, hR⟩
        | false =>
          rw [hc] at hR
          exact it_f rfl hR
      · rw [List.nil_append, filt_gap]
        rw [show (pre ++ [d]).length = pre.length + 1 from List.length_append] at kk
        exact ⟨(show 1 < 6 by decide), .inr (noL_T _), kk _ ⟨_, _, _, _, rfl⟩⟩
  · obtain ⟨s2, s3, s4, s5, rfl⟩ := hh
    rw [List.length_replicate]
    repeat decreasing_trivial_pre_omega
    exact q _ (fun d => mem_all k1) (step_few k5 k5)
end K65

namespace K65
open PySem PySem.Spec PyProof.Rows L2 Dl Ns Zs Rk
abbrev s__law_rules : Stmt := top 28
abbrev N__law_rules : List Str := ["_law_hand_here", "_law_n", "_law_many", "_law_count", "_law_rules_here", "_law_x", "_law_y", "_law_a", "_law_b", "_law_ring", "_law_k"]
theorem sc__law_rules : FnScope N__law_rules ["_law_hand_here", "_law_n", "_law_many"] (defScope s__law_rules) := ⟨rfl, rfl, rfl, by decide +kernel, rfl, by decide +kernel, by decide +kernel⟩
def d__law_rules (K : PySem.W.Frag) (hd : Addr) (Ed : DEnv → Exc → Prop) : TSD := sSeq (sIf (dTest (dOp (fEq false) (dVar 1) (dC (.int 0)))) (sRet (dOp Sl.fRepL (dLst (dCons (dTup (dCons (dTup (dNil)) (dCons (dTup (dCons (dC (.str "never")) (dNil))) (dNil)))) (dNil))) (dCall ((C__law_take hd)) [] Ed (dCons (dVar 0) (dCons (dC (.int 2)) (dNil)))))) (sNext)) (sSeq (sAsg 3 (dCall ((C__law_take hd)) [] Ed (dCons (dVar 0) (dCons (dOp fAdd (dVar 2) (dC (.int 1))) (dNil))))) (sSeq (sAsg 4 (dF (fLc (idRng1 (dCons (dVar 3) (dNil))) (gdName 10) (dYes) (dCall ((C__law_rule K hd)) [] (fun _ _ => False) (dCons (dVar 0) (dCons (dVar 1) (dNil)))) (([("_law_k", 10)] : List (Str × Nat)).map (·.2))))) (sSeq (sIf (dOr (dTest (dOp (fEq false) (dCall ((C__law_take hd)) [] Ed (dCons (dVar 0) (dCons (dC (.int 2)) (dNil)))) (dC (.int 0)))) (dTest (dOp fLt (dVar 3) (dC (.int 3))))) (sRet (dVar 4)) (sNext)) (sSeq (sAsg 5 (dCall ((C__law_take hd)) [] Ed (dCons (dVar 0) (dCons (dVar 1) (dNil))))) (sSeq (sAsg 6 (dCall ((C__law_take hd)) [] Ed (dCons (dVar 0) (dCons (dVar 1) (dNil))))) (sSeq (sAsg 7 (dCall ((C__law_take hd)) [] Ed (dCons (dVar 0) (dCons (dVar 1) (dNil))))) (sSeq (sAsg 8 (dCall ((C__law_take hd)) [] Ed (dCons (dVar 0) (dCons (dVar 1) (dNil))))) (sSeq (sAsg 9 (dLst (dCons (dTup (dCons (dTup (dNil)) (dCons (dTup (dCons (dC (.str "not after")) (dCons (dVar 5) (dCons (dVar 6) (dNil))))) (dNil)))) (dCons (dTup (dCons (dTup (dNil)) (dCons (dTup (dCons (dC (.str "not after")) (dCons (dVar 6) (dCons (dVar 5) (dNil))))) (dNil)))) (dCons (dTup (dCons (dTup (dCons (dTup (dCons (dVar 5) (dCons (dVar 6) (dNil)))) (dNil))) (dCons (dTup (dCons (dC (.str "not after")) (dCons (dVar 7) (dCons (dVar 8) (dNil))))) (dNil)))) (dNil)))))) (sSeq (sAsg 9 (dOp fAdd (dVar 9) (dLst (dCons (dTup (dCons (dTup (dCons (dTup (dCons (dVar 6) (dCons (dVar 5) (dNil)))) (dNil))) (dCons (dTup (dCons (dC (.str "not after")) (dCons (dVar 8) (dCons (dVar 7) (dNil))))) (dNil)))) (dCons (dTup (dCons (dTup (dCons (dTup (dCons (dVar 7) (dCons (dVar 8) (dNil)))) (dCons (dTup (dCons (dVar 5) (dCons (dVar 6) (dNil)))) (dNil)))) (dCons (dOp fIx (dOp fIx (dVar 4) (dC (.int 0))) (dC (.int 1))) (dNil)))) (dNil)))))) (sSeq (sAsg 9 (dSl (dVar 9) (dNoP) (dPart (dVar 3)))) (sSeq (sIf (dTest (dOp (fEq false) (dCall ((C__law_take hd)) [] Ed (dCons (dVar 0) (dCons (dC (.int 2)) (dNil)))) (dC (.int 0)))) (sAsg 9 (Sl.dRevL (dVar 9))) (sNext)) (sRet (dOp fAdd (dVar 9) (dSl (dVar 4) (dPart (dCB bLen (dCons (dVar 9) (dNil)))) (dNoP)))))))))))))))
theorem pd__law_rules {P : Program} {w : World} {K : PySem.W.Frag} {mg : Str → Option Value} {base : Heap} {I : HI} {fa : Addr} {hd : Addr} {cdv : Value} {A : Around} {outer : List Env} {s : Shared} {H : Hp} {E : XK} {Ed : Exc → Prop} (T : Tf K mg) (c__law_rule : Cl P w K mg base I 4 "_law_rule" 2 (C__law_rule K hd) []) (c__law_take : Cl P w K mg base I 3 "_law_take" 2 (C__law_take hd) [])
    (hr : Room 4 (A.deeper (envOfC "_law_rules" (defScope s__law_rules) s.heap.objs.size fa cdv))) (tk : Takes (cxD P w K mg base N__law_rules "_law_rules" (defScope s__law_rules) fa cdv A outer s H E) (gOf I Ed E).W) :
    PSsD (cxD P w K mg base N__law_rules "_law_rules" (defScope s__law_rules) fa cdv A outer s H E) (gOf I Ed E) (defBody s__law_rules) (d__law_rules K hd (gOf I Ed E).Ed) :=
  have nd := sc__law_rules.nd; ds_cons (ds_if (dt_cmp (r_eq (h64 hr)) (dv 1) (d_int) (nomark _)) (ds_one (ds_ret (d_op Sl.r_repL (d_lst (da_cons (d_tup (da_cons (d_tup (da_nil)) (da_cons (d_tup (da_cons (d_str) (da_nil))) (da_nil)))) (da_nil))) (d_callC c__law_take (ar__law_take _) hr (by decide) rfl tk (da_cons (dv 0) (da_cons (d_int) (da_nil))))))) (ds_nil)) (ds_cons (ds_set (i := 3) nd rfl (by first | exact Or.inl rfl | exact Or.inr rfl) (d_callC c__law_take (ar__law_take _) hr (by decide) rfl tk (da_cons (dv 0) (da_cons (d_op r_add (dv 2) (d_int)) (da_nil))))) (ds_cons (ds_lcV (i := 4) rfl nd rfl rfl (sw_true rfl rfl rfl (by decide +kernel)) (di_range1 rfl T.n_range (da_cons (dv 3) (da_nil))) (blkOk_by (own := [("_law_k", 10)]) (N := N__law_rules) (sc := defScope s__law_rules) (by decide +kernel)) (fun _ _ _ _ _ => pg_name (i := 10) nd rfl (by first | exact Or.inl rfl | exact Or.inr rfl)) sg_name (gw_name (by decide)) bt_nil (be_of (fun _ _ _ _ _ => d_callC c__law_rule (ar__law_rule _) hr (by decide) rfl takes0 (da_cons (dv 0) (da_cons (dv 1) (da_nil)))))) (ds_cons (ds_if (PWD.pt (dt_or (dt_cmp (r_eq (h64 hr)) (d_callC c__law_take (ar__law_take _) hr (by decide) rfl tk (da_cons (dv 0) (da_cons (d_int) (da_nil)))) (d_int) (nomark _)) (dt_or1 (dt_cmp (r_lt hr.units0) (dv 3) (d_int) (nomark _))))) (ds_one (ds_ret (dv 4))) (ds_nil)) (ds_cons (ds_set (i := 5) nd rfl (by first | exact Or.inl rfl | exact Or.inr rfl) (d_callC c__law_take (ar__law_take _) hr (by decide) rfl tk (da_cons (dv 0) (da_cons (dv 1) (da_nil))))) (ds_cons (ds_set (i := 6) nd rfl (by first | exact Or.inl rfl | exact Or.inr rfl) (d_callC c__law_take (ar__law_take _) hr (by decide) rfl tk (da_cons (dv 0) (da_cons (dv 1) (da_nil))))) (ds_cons (ds_set (i := 7) nd rfl (by first | exact Or.inl rfl | exact Or.inr rfl) (d_callC c__law_take (ar__law_take _) hr (by decide) rfl tk (da_cons (dv 0) (da_cons (dv 1) (da_nil))))) (ds_cons (ds_set (i := 8) nd rfl (by first | exact Or.inl rfl | exact Or.inr rfl) (d_callC c__law_take (ar__law_take _) hr (by decide) rfl tk (da_cons (dv 0) (da_cons (dv 1) (da_nil))))) (ds_cons (ds_set (i := 9) nd rfl (by first | exact Or.inl rfl | exact Or.inr rfl) (d_lst (da_cons (d_tup (da_cons (d_tup (da_nil)) (da_cons (d_tup (da_cons (d_str) (da_cons (dv 5) (da_cons (dv 6) (da_nil))))) (da_nil)))) (da_cons (d_tup (da_cons (d_tup (da_nil)) (da_cons (d_tup (da_cons (d_str) (da_cons (dv 6) (da_cons (dv 5) (da_nil))))) (da_nil)))) (da_cons (d_tup (da_cons (d_tup (da_cons (d_tup (da_cons (dv 5) (da_cons (dv 6) (da_nil)))) (da_nil))) (da_cons (d_tup (da_cons (d_str) (da_cons (dv 7) (da_cons (dv 8) (da_nil))))) (da_nil)))) (da_nil)))))) (ds_cons (ds_set (i := 9) nd rfl (by first | exact Or.inl rfl | exact Or.inr rfl) (d_op r_add (dv 9) (d_lst (da_cons (d_tup (da_cons (d_tup (da_cons (d_tup (da_cons (dv 6) (da_cons (dv 5) (da_nil)))) (da_nil))) (da_cons (d_tup (da_cons (d_str) (da_cons (dv 8) (da_cons (dv 7) (da_nil))))) (da_nil)))) (da_cons (d_tup (da_cons (d_tup (da_cons (d_tup (da_cons (dv 7) (da_cons (dv 8) (da_nil)))) (da_cons (d_tup (da_cons (dv 5) (da_cons (dv 6) (da_nil)))) (da_nil)))) (da_cons (d_ix (d_ix (dv 4) (d_int)) (d_int)) (da_nil)))) (da_nil)))))) (ds_cons (ds_set (i := 9) nd rfl (by first | exact Or.inl rfl | exact Or.inr rfl) (d_slice (dv 9) (do_none) (do_some (dv 3)))) (ds_cons (ds_if (dt_cmp (r_eq (h64 hr)) (d_callC c__law_take (ar__law_take _) hr (by decide) rfl tk (da_cons (dv 0) (da_cons (d_int) (da_nil)))) (d_int) (nomark _)) (ds_one (ds_set (i := 9) nd rfl (by first | exact Or.inl rfl | exact Or.inr rfl) (Sl.d_revL (dv 9)))) (ds_nil)) (ds_one (ds_ret (d_op r_add (dv 9) (d_slice (dv 4) (do_some (d_callB c_len rfl T.n_len PySem.boot_len (da_cons (dv 9) (da_nil)))) (do_none))))))))))))))))
end K65

namespace K65
open PySem PySem.Spec PyProof.Rows L2 Dl Ns Zs Zz Rk Rd
local macro_rules
  | `(tactic| decreasing_trivial_pre_omega) => `(tactic| first
  | ((with_reducible apply Rd.rVar); (rfl); (rfl))
  | (with_reducible refine Rd.rC ?_)
  | (with_reducible refine Rd.rCons ?_)
  | (with_reducible refine Rd.rNil ?_)
  | (with_reducible refine Rd.rInts ?_)
  | (with_reducible refine Rd.rOp ?_)
  | (with_reducible refine Rd.rUn ?_)
  | (with_reducible refine Rd.rNeg ?_)
  | (with_reducible refine Rd.rTest ?_)
  | (with_reducible refine Rd.rB ?_)
  | (with_reducible refine Rd.rEx ?_)
  | (with_reducible refine Rd.rAnd ?_)
  | (with_reducible refine Rd.rOr ?_)
  | (with_reducible refine Rd.rNot ?_)
  | (with_reducible refine Rd.rYes ?_)
  | (with_reducible refine Rd.rAndV ?_)
  | (with_reducible refine Rd.rOrV ?_)
  | (with_reducible refine Rd.rNotV ?_)
  | (with_reducible refine Rd.rIfE ?_)
  | (with_reducible refine Rd.rTup ?_)
  | (with_reducible refine Rd.rLst ?_)
  | (with_reducible refine Rd.rFLst ?_)
  | ((with_reducible refine Rd.rSz ?_ ?_); (first | decide | exact of_decide_eq_true rfl))
  | (with_reducible refine Rd.rF ?_)
  | (with_reducible refine Rd.rCB ?_)
  | (with_reducible refine Rd.rCall ?_)
  | (with_reducible refine Rd.rSl ?_)
  | (with_reducible refine Rd.rNoP ?_)
  | (with_reducible refine Rd.rPart ?_)
  | (with_reducible refine Rd.rExI ?_)
  | (with_reducible refine Rd.rSub ?_)
  | (with_reducible refine Rd.rAdd ?_)
  | (with_reducible refine Rd.rLt ?_)
  | (with_reducible refine Rd.rEqI ?_)
  | (with_reducible refine Rd.rLenT ?_)
  | (with_reducible refine Rd.rLenL ?_)
  | (with_reducible refine Rd.rTupT ?_)
  | (with_reducible refine Rd.rTupL ?_)
  | (with_reducible refine Rd.rLstT ?_)
  | (with_reducible refine Rd.rLstL ?_)
  | (with_reducible refine Rd.rSeq ?_)
  | (with_reducible refine Rd.rNext ?_)
  | (with_reducible refine Rd.rRet ?_)
  | (with_reducible refine Rd.rIf ?_)
  | (with_reducible refine Rd.rAsg ?_)
  | ((with_reducible refine Rd.rKeep ?_ ?_); (first | exact Or.inl rfl | exact Or.inr rfl | assumption))
  | (with_reducible refine Rd.rNew ?_)
  | ((with_reducible refine Rd.rNewK ?_ ?_ ?_); (exact Nat.le_of_ble_eq_true rfl); (first | exact Or.inl rfl | exact Or.inr rfl | assumption))
  | (with_reducible refine Rd.rYesT ?_)
  | (with_reducible refine Rd.rNoT ?_)
  | (with_reducible refine Rd.rN1 ?_)
  | (with_reducible refine Rd.rN2 ?_)
  | (with_reducible refine Rd.rX1 ?_)
  | (with_reducible refine Rd.rX2 ?_)
  | (with_reducible refine Rd.rX3 ?_)
  | (with_reducible refine Rd.rX4 ?_)
  | (with_reducible refine Rd.rLc ?_)
  | (with_reducible refine Rd.rDn ?_)
  | (with_reducible refine Rd.rEnum ?_)
  | (with_reducible refine Rd.rSeqI ?_)
  | (with_reducible refine Rd.rDrop ?_)
  | (with_reducible refine Rd.rFor ?_)
  | ((with_reducible apply Rd.rVarI); (rfl); (rfl))
  | (with_reducible refine Rd.rGdN ?_)
  | ((with_reducible refine Rd.rGdT ?_ ?_); (rfl))
  | (with_reducible refine Rd.rRng ?_)
  | ((with_reducible refine Rd.rKeep ?_ ?_); (exact Or.inr (tI_good _).2.2)))
theorem at_at {d : List Int} {i : Int} (h0 : 0 ≤ i) (h1 : i < d.length) : atI (d.map D.int) i = some (.int (at_ d i)) := by
  have e : (i.toNat : Int) = i := Int.toNat_of_nonneg h0
  have hl : i.toNat < d.length := by omega
  have h2 : d[i.toNat]? = some (at_ d i) := by
    unfold at_
    rw [List.getD_eq_getElem?_getD, List.getElem?_eq_getElem hl]
    rfl
  have := atI_of h2
  rw [e] at this
  exact this
theorem ct__law_keeps {K : PySem.W.Frag} {ds : List D} {Qd : D → Prop} {Ed : Exc → Prop} (h : C__law_keeps K ds Qd Ed) : d__law_keeps K (fun _ x => Ed x) (eK Qd) (startD N__law_keeps ds) := by
  obtain ⟨r, d, rfl, ⟨hp, hf⟩, q⟩ := h
  unfold d__law_keeps
  repeat decreasing_trivial_pre_omega
  refine rIxT (d := .tup (r.prem.map coupD)) rfl ⟨.inl rfl, _, rfl, ?_⟩
  have go : ∀ (ps done : List (Int × Int)) (s2 s3 : Slot), r.prem = done ++ ps → (done.any fun p => !decide (at_ d p.1 = at_ d p.2)) = false →
      forD (gdTup [2, 3]) (sIf (dTest (dOp (fEq true) (dOp fIx (dVar 1) (dVar 2)) (dOp fIx (dVar 1) (dVar 3)))) (sRet (dC (.bl true))) sNext) ⟨sSeq (sIf (dTest (dOp (fEq false) (dCB bLen (dCons (dOp fIx (dVar 0) (dC (.int 1))) (dNil))) (dC (.int 1)))) (sRet (dC (.bl false))) (sNext)) (sRet (dOp fLe (dOp fIx (dVar 1) (dOp fIx (dOp fIx (dVar 0) (dC (.int 1))) (dC (.int 1)))) (dOp fIx (dVar 1) (dOp fIx (dOp fIx (dVar 0) (dC (.int 1))) (dC (.int 2)))))) (eK Qd), Qd, fun _ => False, fun _ => False⟩ (ps.map coupD) [.val (ruleD r), .val (tupI d), s2, s3] := by
    intro ps
    induction ps with
    | nil =>
      intro done s2 s3 e hno
      rw [List.append_nil] at e
      rw [← e] at hno
      show DEnds.nx _ _
      repeat decreasing_trivial_pre_omega
      refine rIxT (d := finD r.fin) rfl ?_
      unfold keepsB at q
      rw [hno, Bool.false_or] at q
      cases hfin : r.fin with
      | none =>
        rw [hfin] at q
        repeat decreasing_trivial_pre_omega
        dsimp only [finD]
        repeat decreasing_trivial_pre_omega
        refine it_t (by decide) ?_
        repeat decreasing_trivial_pre_omega
        exact q
      | some p =>
        rw [hfin] at q
        obtain ⟨⟨a0, a1⟩, b0, b1⟩ := hf p hfin
        repeat decreasing_trivial_pre_omega
        dsimp only [finD]
        repeat decreasing_trivial_pre_omega
        refine it_f (by show xr false (decide ((3 : Int) = 1)) = false; decide) ?_
        repeat decreasing_trivial_pre_omega
        refine rIxT (d := finD r.fin) rfl ?_
        rw [hfin]
        refine rIxT (d := .int p.1) rfl ?_
        refine rIxT (at_at a0 a1) ?_
        repeat decreasing_trivial_pre_omega
        refine rIxT (d := finD r.fin) rfl ?_
        rw [hfin]
        refine rIxT (d := .int p.2) rfl ?_
        refine rIxT (at_at b0 b1) ?_
        repeat decreasing_trivial_pre_omega
        exact q
    | cons p ps ih =>
      intro done s2 s3 e hno
      obtain ⟨⟨a0, a1⟩, b0, b1⟩ := hp p (by rw [e]; simp)
      show gdTup [2, 3] (.tup [.int p.1, .int p.2]) _ _
      repeat decreasing_trivial_pre_omega
      refine rIxT (at_at a0 a1) ?_
      repeat decreasing_trivial_pre_omega
      refine rIxT (at_at b0 b1) ?_
      repeat decreasing_trivial_pre_omega
      by_cases c : at_ d p.1 = at_ d p.2
      · refine it_f (by rw [decide_eq_true c]; rfl) ?_
        repeat decreasing_trivial_pre_omega
        refine ih (done ++ [p]) _ _ (by rw [e]; simp) ?_
        rw [List.any_append, hno, List.any_cons, decide_eq_true c]
        rfl
      · refine it_t (by rw [decide_eq_false c]; rfl) ?_
        repeat decreasing_trivial_pre_omega
        have : keepsB r d = true := by
          unfold keepsB
          rw [Bool.or_eq_true]
          exact .inl (List.any_eq_true.mpr ⟨p, by rw [e]; simp, by rw [decide_eq_false c]; rfl⟩)
        rw [this] at q
        exact q
  exact go r.prem [] _ _ rfl rfl
theorem ct__law_keep_all {K : PySem.W.Frag} {ds : List D} {Qd : D → Prop} {Ed : Exc → Prop} (h : C__law_keep_all K ds Qd Ed) : d__law_keep_all K (fun _ x => Ed x) (eK Qd) (startD N__law_keep_all ds) := by
  obtain ⟨rs, d, rfl, hr, q⟩ := h
  unfold d__law_keep_all
  repeat decreasing_trivial_pre_omega
  have go : ∀ (rest done : List RuleT) (s2 : Slot), rs = done ++ rest → (done.all fun r => keepsB r d) = true →
      forD (gdName 2) (sIf (dNot (dB (dCall ((C__law_keeps K)) [] (fun _ x => Ed x) (dCons (dVar 2) (dCons (dVar 1) (dNil)))))) (sRet (dC (.bl false))) (sNext)) ⟨sRet (dC (.bl true)) (eK Qd), Qd, fun _ => False, fun _ => False⟩ (rest.map ruleD) [.val (.lst (rs.map ruleD)), .val (tupI d), s2] := by
    intro rest
    induction rest with
    | nil =>
      intro done s2 e hall
      rw [List.append_nil] at e
      rw [← e] at hall
      rw [hall] at q
      show DEnds.nx _ _
      repeat decreasing_trivial_pre_omega
      exact q
    | cons r rest ih =>
      intro done s2 e hall
      show gdName 2 (ruleD r) _ _
      repeat decreasing_trivial_pre_omega
      refine ⟨r, d, rfl, hr r (by rw [e]; simp), ?_⟩
      repeat decreasing_trivial_pre_omega
      cases c : keepsB r d with
      | true =>
        refine it_f rfl ?_
        repeat decreasing_trivial_pre_omega
        refine ih (done ++ [r]) _ (by rw [e]; simp) ?_
        rw [List.all_append, hall, List.all_cons, c]
        rfl
      | false =>
        refine it_t rfl ?_
        repeat decreasing_trivial_pre_omega
        have : (rs.all fun r => keepsB r d) = false := by
          rw [List.all_eq_false]
          exact ⟨r, by rw [e]; simp, by rw [c]; decide⟩
        rw [this] at q
        exact q
  exact go rs [] _ rfl rfl
theorem ct__law_standing {K : PySem.W.Frag} {hd : Addr} {ds : List D} {Qd : D → Prop} {Ed : Exc → Prop} (h : C__law_standing K hd ds Qd Ed) : d__law_standing K hd (fun _ x => Ed x) (eK Qd) (startD N__law_standing ds) := by
  obtain ⟨k, rfl, k7, q⟩ := h
  unfold d__law_standing
  repeat decreasing_trivial_pre_omega
  refine ⟨(k : Int), rfl, by omega, by rw [rngD, List.length_map, List.length_range]; omega, ?_⟩
  refine lcD_draw (fun y => ∃ i : Int, y = .int i) (fun y ⟨i, e⟩ => by rw [e]; rfl) _ [] (fun x hx R hR => ?_) (fun ys hl hys => ?_)
  · repeat decreasing_trivial_pre_omega
    have k1 : 0 < k := by
      cases k with
      | zero => cases hx
      | succ k => omega
    exact ⟨(k : Int), rfl, by omega, by omega, fun r r0 r1 => hR _ ⟨r, rfl⟩⟩
  · obtain ⟨ns, rfl⟩ : ∃ ns : List Int, ys = ns.map D.int := by
      clear hl
      induction ys with
      | nil => exact ⟨[], rfl⟩
      | cons y ys ih =>
        obtain ⟨i, rfl⟩ := hys y List.mem_cons_self
        obtain ⟨ns, rfl⟩ := ih fun z hz => hys z (List.mem_cons_of_mem _ hz)
        exact ⟨i :: ns, rfl⟩
    rw [List.length_map, rngD, List.length_map, List.length_range] at hl
    rw [List.nil_append]
    repeat decreasing_trivial_pre_omega
    exact ⟨_, rfl, .inl ⟨ns, rfl, by omega, fun rs h => q rs h.std (by rw [h.len]; omega)⟩⟩
end K65

namespace K65
open PySem PySem.Spec PyProof.Rows L2 Dl Ns Zs Zz Rk Rd
local macro_rules
  | `(tactic| decreasing_trivial_pre_omega) => `(tactic| first
  | ((with_reducible apply Rd.rVar); (rfl); (rfl))
  | (with_reducible refine Rd.rC ?_)
  | (with_reducible refine Rd.rCons ?_)
  | (with_reducible refine Rd.rNil ?_)
  | (with_reducible refine Rd.rInts ?_)
  | (with_reducible refine Rd.rOp ?_)
  | (with_reducible refine Rd.rUn ?_)
  | (with_reducible refine Rd.rNeg ?_)
  | (with_reducible refine Rd.rTest ?_)
  | (with_reducible refine Rd.rB ?_)
  | (with_reducible refine Rd.rEx ?_)
  | (with_reducible refine Rd.rAnd ?_)
  | (with_reducible refine Rd.rOr ?_)
  | (with_reducible refine Rd.rNot ?_)
  | (with_reducible refine Rd.rYes ?_)
  | (with_reducible refine Rd.rAndV ?_)
  | (with_reducible refine Rd.rOrV ?_)
  | (with_reducible refine Rd.rNotV ?_)
  | (with_reducible refine Rd.rIfE ?_)
  | (with_reducible refine Rd.rTup ?_)
  | (with_reducible refine Rd.rLst ?_)
  | (with_reducible refine Rd.rFLst ?_)
  | ((with_reducible refine Rd.rSz ?_ ?_); (first | decide | exact of_decide_eq_true rfl))
  | (with_reducible refine Rd.rF ?_)
  | (with_reducible refine Rd.rCB ?_)
  | (with_reducible refine Rd.rCall ?_)
  | (with_reducible refine Rd.rSl ?_)
  | (with_reducible refine Rd.rNoP ?_)
  | (with_reducible refine Rd.rPart ?_)
  | (with_reducible refine Rd.rExI ?_)
  | (with_reducible refine Rd.rSub ?_)
  | (with_reducible refine Rd.rAdd ?_)
  | (with_reducible refine Rd.rLt ?_)
  | (with_reducible refine Rd.rEqI ?_)
  | (with_reducible refine Rd.rLenT ?_)
  | (with_reducible refine Rd.rLenL ?_)
  | (with_reducible refine Rd.rTupT ?_)
  | (with_reducible refine Rd.rTupL ?_)
  | (with_reducible refine Rd.rLstT ?_)
  | (with_reducible refine Rd.rLstL ?_)
  | (with_reducible refine Rd.rSeq ?_)
  | (with_reducible refine Rd.rNext ?_)
  | (with_reducible refine Rd.rRet ?_)
  | (with_reducible refine Rd.rIf ?_)
  | (with_reducible refine Rd.rAsg ?_)
  | ((with_reducible refine Rd.rKeep ?_ ?_); (first | exact Or.inl rfl | exact Or.inr rfl | assumption))
  | (with_reducible refine Rd.rNew ?_)
  | ((with_reducible refine Rd.rNewK ?_ ?_ ?_); (exact Nat.le_of_ble_eq_true rfl); (first | exact Or.inl rfl | exact Or.inr rfl | assumption))
  | (with_reducible refine Rd.rYesT ?_)
  | (with_reducible refine Rd.rNoT ?_)
  | (with_reducible refine Rd.rN1 ?_)
  | (with_reducible refine Rd.rN2 ?_)
  | (with_reducible refine Rd.rX1 ?_)
  | (with_reducible refine Rd.rX2 ?_)
  | (with_reducible refine Rd.rX3 ?_)
  | (with_reducible refine Rd.rX4 ?_)
  | (with_reducible refine Rd.rLc ?_)
  | (with_reducible refine Rd.rDn ?_)
  | (with_reducible refine Rd.rEnum ?_)
  | (with_reducible refine Rd.rSeqI ?_)
  | (with_reducible refine Rd.rDrop ?_)
  | (with_reducible refine Rd.rFor ?_)
  | ((with_reducible apply Rd.rVarI); (rfl); (rfl))
  | (with_reducible refine Rd.rGdN ?_)
  | ((with_reducible refine Rd.rGdT ?_ ?_); (rfl))
  | (with_reducible refine Rd.rRng ?_)
  | ((with_reducible refine Rd.rKeep ?_ ?_); (exact Or.inr (tI_good _).2.2)))
theorem at_mem {d : List Int} {i : Int} (h0 : 0 ≤ i) (h1 : i < d.length) : at_ d i ∈ d := by
  unfold at_
  have hl : i.toNat < d.length := by omega
  rw [List.getD_eq_getElem?_getD, List.getElem?_eq_getElem hl]
  exact List.getElem_mem hl
theorem nol_c (ps : List (Int × Int)) : noLstA (ps.map coupD) = true := noLst_of fun x hx => by
  obtain ⟨p, _, rfl⟩ := List.mem_map.mp hx
  rfl
theorem ct__law_rule {K : PySem.W.Frag} {hd : Addr} {ds : List D} {Qd : D → Prop} {Ed : Exc → Prop} (h : C__law_rule K hd ds Qd Ed) : d__law_rule K hd (fun _ x => Ed x) (eK Qd) (startD N__law_rule ds) := by
  obtain ⟨n, rfl, n1, n5, q⟩ := h
  unfold d__law_rule
  repeat decreasing_trivial_pre_omega
  refine ⟨11, rfl, by decide, by decide, fun r r0 r1 => ?_⟩
  have hm := at_mem (d := [0, 0, 0, 0, 1, 1, 1, 2, 2, 3, 4]) r0 r1
  have hb : ∀ x ∈ ([0, 0, 0, 0, 1, 1, 1, 2, 2, 3, 4] : List Int), 0 ≤ x ∧ x ≤ 4 := by decide
  obtain ⟨v0, v4⟩ := hb _ hm
  refine rIxL (at_at (d := [0, 0, 0, 0, 1, 1, 1, 2, 2, 3, 4]) r0 r1) ?_
  generalize at_ [0, 0, 0, 0, 1, 1, 1, 2, 2, 3, 4] r = v at v0 v4
  repeat decreasing_trivial_pre_omega
  refine ⟨v, rfl, by omega, ?_⟩
  have e : rngD 0 v.toNat = rngD (([] : List D).length : Nat) (List.replicate v.toNat D.non).length := by
    rw [List.length_replicate]
    rfl
  rw [e]
  refine rng_loop (xs := List.replicate v.toNat D.non) (fun pre env => ∃ (ps : List (Int × Int)) (s3 s4 : Slot), env = [.val (.ref hd), .val (.int n), .own (ps.map coupD), s3, s4] ∧ ps.length = pre.length ∧ ∀ p ∈ ps, inP n p) (fun pre d suf env nx e hh kk => ?_) (fun env hh => ?_) (List.replicate v.toNat D.non) [] _ rfl ⟨[], _, _, rfl, rfl, fun p hp => by cases hp⟩
  · obtain ⟨ps, s3, s4, rfl, hl, hp⟩ := hh
    have hpre : pre.length < 4 := by
      have := congrArg List.length e
      rw [List.length_replicate, List.length_append, List.length_cons] at this
      omega
    repeat decreasing_trivial_pre_omega
    refine ⟨(n : Int), rfl, by omega, by omega, fun x x0 x1 => ?_⟩
    repeat decreasing_trivial_pre_omega
    refine rApp rfl ?_
    repeat decreasing_trivial_pre_omega
    refine ⟨(n : Int), rfl, by omega, by omega, fun y y0 y1 => ?_⟩
    repeat decreasing_trivial_pre_omega
    refine ⟨rfl, ?_, kk _ ⟨ps ++ [(x, y)], .val (.int (pre.length : Nat)), .val (.int x), ?_, by rw [List.length_append, List.length_append, hl]; rfl, fun p hp' => ?_⟩⟩
    · rw [List.length_map]
      exact Nat.lt_of_lt_of_le (show ps.length < 1000 by omega) (by decide)
    · rw [List.map_append]
      rfl
    · rcases List.mem_append.mp hp' with hp' | hp'
      · exact hp p hp'
      · rw [List.mem_singleton.mp hp']
        exact ⟨⟨x0, x1⟩, y0, y1⟩
  · obtain ⟨ps, s3, s4, rfl, hl, hp⟩ := hh
    rw [List.length_replicate] at hl
    repeat decreasing_trivial_pre_omega
    refine ⟨8, rfl, by decide, by decide, fun r r0 r1 => ?_⟩
    repeat decreasing_trivial_pre_omega
    by_cases c : r = 0
    · refine it_t (by rw [decide_eq_true c]; rfl) ?_
      repeat decreasing_trivial_pre_omega
      exact q ⟨ps, none⟩ ⟨hp, fun p h => by cases h⟩ (by show ps.length ≤ 4; omega)
    · refine it_f (by rw [decide_eq_false c]; rfl) ?_
      repeat decreasing_trivial_pre_omega
      refine ⟨(n : Int), rfl, by omega, by omega, fun x x0 x1 => ?_⟩
      repeat decreasing_trivial_pre_omega
      refine ⟨(n : Int), rfl, by omega, by omega, fun y y0 y1 => ?_⟩
      repeat decreasing_trivial_pre_omega
      exact q ⟨ps, some (x, y)⟩ ⟨hp, fun p h => by cases h; exact ⟨⟨x0, x1⟩, y0, y1⟩⟩ (by show ps.length ≤ 4; omega)
theorem cut_map {α β : Type} (f : α → β) (xs : List α) (lo hi : Option Int) : cutL (xs.map f) lo hi = (cutL xs lo hi).map f := by
  unfold cutL
  rw [List.length_map, ← List.map_drop, ← List.map_take]
theorem cut_mem {α : Type} {xs : List α} {lo hi : Option Int} {x : α} (h : x ∈ cutL xs lo hi) : x ∈ xs := List.mem_of_mem_drop (List.mem_of_mem_take h)
theorem cut_len {α : Type} {xs : List α} {lo hi : Option Int} : (cutL xs lo hi).length ≤ xs.length := by
  unfold cutL
  rw [List.length_take, List.length_drop]
  omega
theorem rules_of {n : Nat} : ∀ {ys : List D}, (∀ y ∈ ys, ∃ r, y = ruleD r ∧ inN n r) → ∃ rs : List RuleT, ys = rs.map ruleD ∧ ∀ r ∈ rs, inN n r
  | [], _ => ⟨[], rfl, fun r h => by cases h⟩
  | y :: ys, h => by
    obtain ⟨r, rfl, hr⟩ := h y List.mem_cons_self
    obtain ⟨rs, rfl, hrs⟩ := rules_of fun z hz => h z (List.mem_cons_of_mem _ hz)
    refine ⟨r :: rs, rfl, fun x hx => ?_⟩
    rcases List.mem_cons.mp hx with e | hx
    · rw [e]; exact hr
    · exact hrs x hx
theorem nol_fin : ∀ f : Option (Int × Int), (finD f).noLst = true
  | none => rfl
  | some _ => rfl
theorem nol_rule (r : RuleT) : (ruleD r).noLst = true := by
  show noLstA [.tup (r.prem.map coupD), finD r.fin] = true
  have h : (D.tup (r.prem.map coupD)).noLst = true := nol_c r.prem
  simp only [noLstA, h, nol_fin, Bool.and_self]
end K65

namespace K65
open PySem PySem.Spec PyProof.Rows L2 Dl Ns Zs Zz Rk Rd
local macro_rules
  | `(tactic| decreasing_trivial_pre_omega) => `(tactic| first
  | ((with_reducible apply Rd.rVar); (rfl); (rfl))
  | (with_reducible refine Rd.rC ?_)
  | (with_reducible refine Rd.rCons ?_)
  | (with_reducible refine Rd.rNil ?_)
  | (with_reducible refine Rd.rInts ?_)
  | (with_reducible refine Rd.rOp ?_)
  | (with_reducible refine Rd.rUn ?_)
  | (with_reducible refine Rd.rNeg ?_)
  | (with_reducible refine Rd.rTest ?_)
  | (with_reducible refine Rd.rB ?_)
  | (with_reducible refine Rd.rEx ?_)
  | (with_reducible refine Rd.rAnd ?_)
  | (with_reducible refine Rd.rOr ?_)
  | (with_reducible refine Rd.rNot ?_)
  | (with_reducible refine Rd.rYes ?_)
  | (with_reducible refine Rd.rAndV ?_)
  | (with_reducible refine Rd.rOrV ?_)
  | (with_reducible refine Rd.rNotV ?_)
  | (with_reducible refine Rd.rIfE ?_)
  | (with_reducible refine Rd.rTup ?_)
  | (with_reducible refine Rd.rLst ?_)
  | (with_reducible refine Rd.rFLst ?_)
  | ((with_reducible refine Rd.rSz ?_ ?_); (first | decide | exact of_decide_eq_true rfl))
  | (with_reducible refine Rd.rF ?_)
  | (with_reducible refine Rd.rCB ?_)
  | (with_reducible refine Rd.rCall ?_)
  | (with_reducible refine Rd.rSl ?_)
  | (with_reducible refine Rd.rNoP ?_)
  | (with_reducible refine Rd.rPart ?_)
  | (with_reducible refine Rd.rExI ?_)
  | (with_reducible refine Rd.rSub ?_)
  | (with_reducible refine Rd.rAdd ?_)
  | (with_reducible refine Rd.rLt ?_)
  | (with_reducible refine Rd.rEqI ?_)
  | (with_reducible refine Rd.rLenT ?_)
  | (with_reducible refine Rd.rLenL ?_)
  | (with_reducible refine Rd.rTupT ?_)
  | (with_reducible refine Rd.rTupL ?_)
  | (with_reducible refine Rd.rLstT ?_)
  | (with_reducible refine Rd.rLstL ?_)
  | (with_reducible refine Rd.rSeq ?_)
  | (with_reducible refine Rd.rNext ?_)
  | (with_reducible refine Rd.rRet ?_)
  | (with_reducible refine Rd.rIf ?_)
  | (with_reducible refine Rd.rAsg ?_)
  | ((with_reducible refine Rd.rKeep ?_ ?_); (first | exact Or.inl rfl | exact Or.inr rfl | assumption))
  | (with_reducible refine Rd.rNew ?_)
  | ((with_reducible refine Rd.rNewK ?_ ?_ ?_); (exact Nat.le_of_ble_eq_true rfl); (first | exact Or.inl rfl | exact Or.inr rfl | assumption))
  | (with_reducible refine Rd.rYesT ?_)
  | (with_reducible refine Rd.rNoT ?_)
  | (with_reducible refine Rd.rN1 ?_)
  | (with_reducible refine Rd.rN2 ?_)
  | (with_reducible refine Rd.rX1 ?_)
  | (with_reducible refine Rd.rX2 ?_)
  | (with_reducible refine Rd.rX3 ?_)
  | (with_reducible refine Rd.rX4 ?_)
  | (with_reducible refine Rd.rLc ?_)
  | (with_reducible refine Rd.rDn ?_)
  | (with_reducible refine Rd.rEnum ?_)
  | (with_reducible refine Rd.rSeqI ?_)
  | (with_reducible refine Rd.rDrop ?_)
  | (with_reducible refine Rd.rFor ?_)
  | ((with_reducible apply Rd.rVarI); (rfl); (rfl))
  | (with_reducible refine Rd.rGdN ?_)
  | ((with_reducible refine Rd.rGdT ?_ ?_); (rfl))
  | (with_reducible refine Rd.rRng ?_)
  | ((with_reducible refine Rd.rKeep ?_ ?_); (exact Or.inr (tI_good _).2.2)))
theorem rFSlL {xs : List D} {lo hi : Option Int} {Q : D → Prop} (q : Q (.lst (cutL xs lo hi))) : fSl (.lst xs) lo hi Q := q
theorem rAddL {xs ys : List D} {Q : D → Prop} (h : xs.length + ys.length ≤ sizeLine) (q : Q (.lst (xs ++ ys))) : fAdd (.lst xs) (.lst ys) Q := ⟨h, q⟩
theorem at_head {x : D} {xs : List D} : atI (x :: xs) 0 = some x := atI_nat (xs := x :: xs) (k := 0) (by simp)
theorem sz1000 {n : Nat} (h : n ≤ 1000) : n ≤ sizeLine := Nat.le_trans h (by decide)
theorem ct__law_rules {K : PySem.W.Frag} {hd : Addr} {ds : List D} {Qd : D → Prop} {Ed : Exc → Prop} (h : C__law_rules K hd ds Qd Ed) : d__law_rules K hd (fun _ x => Ed x) (eK Qd) (startD N__law_rules ds) := by
  obtain ⟨n, rfl, n1, n5, q⟩ := h
  unfold d__law_rules
  repeat decreasing_trivial_pre_omega
  refine it_f (by rw [decide_eq_false (by omega)]; rfl) ?_
  repeat decreasing_trivial_pre_omega
  refine ⟨9, rfl, by decide, by decide, fun c c0 c1 => ?_⟩
  repeat decreasing_trivial_pre_omega
  refine ⟨c, rfl, by omega, by rw [rngD, List.length_map, List.length_range]; omega, ?_⟩
  refine lcD_draw (fun y => ∃ r, y = ruleD r ∧ inN n r) (fun y ⟨r, e, _⟩ => by rw [e]; exact nol_rule r) _ [] (fun x hx R hR => ?_) (fun ys hl hys => ?_)
  · repeat decreasing_trivial_pre_omega
    exact ⟨n, rfl, n1, n5, fun r hr _ => hR _ ⟨r, rfl, hr⟩⟩
  · obtain ⟨rs, rfl, hrs⟩ := rules_of hys
    rw [List.length_map, rngD, List.length_map, List.length_range] at hl
    rw [List.nil_append]
    repeat decreasing_trivial_pre_omega
    refine ⟨2, rfl, by decide, by decide, fun t t0 t1 => ?_⟩
    repeat decreasing_trivial_pre_omega
    by_cases ct : t = 0
    · refine it_t (by rw [decide_eq_true ct]; rfl) ?_
      repeat decreasing_trivial_pre_omega
      exact q rs hrs (by omega)
    · refine it_f (by rw [decide_eq_false ct]; rfl) ?_
      repeat decreasing_trivial_pre_omega
      by_cases cc : c < 3
      · refine it_t (decide_eq_true cc) ?_
        repeat decreasing_trivial_pre_omega
        exact q rs hrs (by omega)
      · refine it_f (decide_eq_false cc) ?_
        repeat decreasing_trivial_pre_omega
        refine ⟨(n : Int), rfl, by omega, by omega, fun x x0 x1 => ?_⟩
        repeat decreasing_trivial_pre_omega
        refine ⟨(n : Int), rfl, by omega, by omega, fun y y0 y1 => ?_⟩
        repeat decreasing_trivial_pre_omega
        refine ⟨(n : Int), rfl, by omega, by omega, fun a a0 a1 => ?_⟩
        repeat decreasing_trivial_pre_omega
        refine ⟨(n : Int), rfl, by omega, by omega, fun b b0 b1 => ?_⟩
        repeat decreasing_trivial_pre_omega
        obtain ⟨r0, rest, rfl⟩ : ∃ r0 rest, rs = r0 :: rest := by
          cases rs with
          | nil => rw [List.length_nil] at hl; omega
          | cons r rest => exact ⟨r, rest, rfl⟩
        refine rIxL (d := ruleD r0) at_head ?_
        repeat decreasing_trivial_pre_omega
        refine rIxT (d := finD r0.fin) rfl ?_
        repeat decreasing_trivial_pre_omega
        refine rAddL (show 5 ≤ sizeLine by decide) ?_
        repeat decreasing_trivial_pre_omega
        have ok0 := hrs r0 List.mem_cons_self
        have X : inP n (x, y) := ⟨⟨x0, x1⟩, y0, y1⟩
        have Y : inP n (y, x) := ⟨⟨y0, y1⟩, x0, x1⟩
        have A : inP n (a, b) := ⟨⟨a0, a1⟩, b0, b1⟩
        have B : inP n (b, a) := ⟨⟨b0, b1⟩, a0, a1⟩
        generalize hR : ([⟨[], some (x, y)⟩, ⟨[], some (y, x)⟩, ⟨[(x, y)], some (a, b)⟩, ⟨[(y, x)], some (b, a)⟩, ⟨[(a, b), (x, y)], r0.fin⟩] : List RuleT) = ring
        have okR : ∀ r ∈ ring, inN n r := by
          rw [← hR]
          intro r hr
          simp only [List.mem_cons, List.not_mem_nil, or_false] at hr
          have one : ∀ {u v : Int × Int}, inP n u → some v = some u → inP n v := fun {u v} h e => by cases e; exact h
          rcases hr with rfl | rfl | rfl | rfl | rfl
          · exact ⟨fun p hp => (by cases hp), fun p e => by cases e; exact X⟩
          · exact ⟨fun p hp => (by cases hp), fun p e => by cases e; exact Y⟩
          · exact ⟨fun p hp => by rw [List.mem_singleton.mp hp]; exact X, fun p e => by cases e; exact A⟩
          · exact ⟨fun p hp => by rw [List.mem_singleton.mp hp]; exact Y, fun p e => by cases e; exact B⟩
          · refine ⟨fun p hp => ?_, ok0.2⟩
            rcases List.mem_cons.mp hp with e | hp
            · rw [e]; exact A
            · rw [List.mem_singleton.mp hp]; exact X
        have lenR : ring.length = 5 := by rw [← hR]; rfl
        have goR : ∀ ring' : List RuleT, (∀ r ∈ ring', inN n r) → ring'.length ≤ 5 → fSl (.lst ((r0 :: rest).map ruleD)) (some ((ring'.map ruleD).length : Int)) none fun y => fAdd (.lst (ring'.map ruleD)) y (eK Qd).rt := by
          intro ring' ok len
          refine rFSlL ?_
          rw [cut_map]
          have cl := cut_len (xs := r0 :: rest) (lo := some ((ring'.map ruleD).length : Int)) (hi := none)
          generalize hz : cutL (r0 :: rest) (some ((ring'.map ruleD).length : Int)) none = zs at cl
          have okz : ∀ r ∈ zs, inN n r := fun r hr => hrs r (cut_mem (by rw [hz]; exact hr))
          refine rAddL (sz1000 ?_) ?_
          · rw [List.length_map, List.length_map]
            omega
          · rw [← List.map_append]
            refine q _ (fun r hr => ?_) ?_
            · rcases List.mem_append.mp hr with hr | hr
              · exact ok r hr
              · exact okz r hr
            · rw [List.length_append]
              omega
        have eR : ([.tup [.tup [], .tup [.str "not after", .int x, .int y]], .tup [.tup [], .tup [.str "not after", .int y, .int x]], .tup [.tup [.tup [.int x, .int y]], .tup [.str "not after", .int a, .int b]]] ++ [.tup [.tup [.tup [.int y, .int x]], .tup [.str "not after", .int b, .int a]], .tup [.tup [.tup [.int a, .int b], .tup [.int x, .int y]], finD r0.fin]] : List D) = ring.map ruleD := by
          rw [← hR]
          rfl
        rw [eR]
        refine rFSlL ?_
        rw [cut_map]
        repeat decreasing_trivial_pre_omega
        refine ⟨2, rfl, by decide, by decide, fun t t0 t1 => ?_⟩
        repeat decreasing_trivial_pre_omega
        have l5 : (cutL ring none (some c)).length ≤ 5 := by
          have := cut_len (xs := ring) (lo := none) (hi := some c)
          omega
        by_cases ct : t = 0
        · refine it_t (by rw [decide_eq_true ct]; rfl) ?_
          repeat decreasing_trivial_pre_omega
          refine ⟨_, _, rfl, rfl, _, rfl, sz1000 (by rw [List.length_map]; omega), ?_⟩
          rw [← List.map_reverse]
          repeat decreasing_trivial_pre_omega
          exact goR _ (fun r hr => okR r (cut_mem (List.mem_reverse.mp hr))) (by rw [List.length_reverse]; exact l5)
        · refine it_f (by rw [decide_eq_false ct]; rfl) ?_
          repeat decreasing_trivial_pre_omega
          exact goR _ (fun r hr => okR r (cut_mem hr)) l5
end K65

namespace K65
open PySem PySem.Spec PyProof.Rows L2 Dl Ns Zs Zz Rk Rd
theorem lt3 {a b c a' b' c' : Int} : tLt [a, b, c] [a', b', c'] ↔ a < a' ∨ (a = a' ∧ (b < b' ∨ (b = b' ∧ c < c'))) := by
  unfold tLt
  rw [HT.lexLt_cons]
  by_cases h1 : a = a'
  · rw [if_pos h1, HT.lexLt_cons]
    by_cases h2 : b = b'
    · rw [if_pos h2, HT.lexLt_cons]
      by_cases h3 : c = c'
      · rw [if_pos h3, lexLt_irr]
        simp only [Bool.false_eq_true, false_iff]
        omega
      · rw [if_neg h3, decide_eq_true_iff]
        omega
    · rw [if_neg h2, decide_eq_true_iff]
      omega
  · rw [if_neg h1, decide_eq_true_iff]
    omega
theorem get_at {d : List Int} {i : Int} (h0 : 0 ≤ i) (h1 : i < d.length) : d[i.toNat]? = some (at_ d i) := by
  have hl : i.toNat < d.length := by omega
  unfold at_
  rw [List.getD_eq_getElem?_getD, List.getElem?_eq_getElem hl]
  rfl
theorem key_at {ns ms : List Int} {c : Int} {i : Int} (hl : ns.length = ms.length) (h0 : 0 ≤ i) (h1 : i < ns.length) : (keys3 ns c ms)[i.toNat]? = some (if at_ ns i < c then [0, at_ ns i, at_ ms i] else [1, at_ ms i, at_ ns i]) := by
  unfold keys3
  rw [List.getElem?_zipWith, get_at h0 h1, get_at h0 (by omega)]
section
variable {n : Nat} {t s u : List Int} {c : Int}
theorem u_lt (ht : t.length = n) (hs : s.length = n) (h : Rks tLt (keys3 t c s) u) {x y : Int} (x0 : 0 ≤ x) (x1 : x < n) (y0 : 0 ≤ y) (y1 : y < n) :
    at_ u x < at_ u y ↔ tLt (if at_ t x < c then [0, at_ t x, at_ s x] else [1, at_ s x, at_ t x]) (if at_ t y < c then [0, at_ t y, at_ s y] else [1, at_ s y, at_ t y]) := by
  have hl : t.length = s.length := by omega
  have lu : u.length = n := by rw [h.len, keys3_len hl, ht]
  exact (h.ord x.toNat y.toNat _ _ _ _ (key_at hl x0 (by omega)) (key_at hl y0 (by omega)) (get_at x0 (by omega)) (get_at y0 (by omega))).symm
theorem tie_down (ht : t.length = n) (hs : s.length = n) (h : Rks tLt (keys3 t c s) u) {x y : Int} (x0 : 0 ≤ x) (x1 : x < n) (y0 : 0 ≤ y) (y1 : y < n) (e : at_ u x = at_ u y) : at_ t x = at_ t y ∧ at_ s x = at_ s y := by
  have a := u_lt ht hs h x0 x1 y0 y1
  have b := u_lt ht hs h y0 y1 x0 x1
  rw [e] at a b
  simp only [Int.lt_irrefl, false_iff] at a b
  by_cases c1 : at_ t x < c <;> by_cases c2 : at_ t y < c <;> simp only [c1, c2, if_true, if_false, lt3, true_and] at a b <;> omega
theorem le_up (ht : t.length = n) (hs : s.length = n) (h : Rks tLt (keys3 t c s) u) {x y : Int} (x0 : 0 ≤ x) (x1 : x < n) (y0 : 0 ≤ y) (y1 : y < n) (e1 : at_ t x ≤ at_ t y) (e2 : at_ s x ≤ at_ s y) : at_ u x ≤ at_ u y := by
  have b := u_lt ht hs h y0 y1 x0 x1
  refine Int.not_lt.mp fun z => ?_
  have b := b.mp z
  by_cases c1 : at_ t x < c <;> by_cases c2 : at_ t y < c <;> simp only [c1, c2, if_true, if_false, lt3, true_and] at b <;> omega
end
theorem keeps_of {n : Nat} {r : RuleT} (ok : inN n r) {t s u : List Int} (h1 : ∀ x y : Int, 0 ≤ x → x < n → 0 ≤ y → y < n → at_ u x = at_ u y → at_ t x = at_ t y ∧ at_ s x = at_ s y)
    (h2 : ∀ x y : Int, 0 ≤ x → x < n → 0 ≤ y → y < n → at_ t x ≤ at_ t y → at_ s x ≤ at_ s y → at_ u x ≤ at_ u y) (kt : keepsB r t = true) (ks : keepsB r s = true) : keepsB r u = true := by
  unfold keepsB at *
  cases hu : (r.prem.any fun p => !decide (at_ u p.1 = at_ u p.2)) with
  | true => rfl
  | false =>
    have tied : ∀ p ∈ r.prem, at_ u p.1 = at_ u p.2 := fun p hp => by
      have := List.any_eq_false.mp hu p hp
      simpa using this
    have no : ∀ d : List Int, (∀ p ∈ r.prem, at_ d p.1 = at_ d p.2) → (r.prem.any fun p => !decide (at_ d p.1 = at_ d p.2)) = false := fun d hd => List.any_eq_false.mpr fun p hp => by
      rw [decide_eq_true (hd p hp)]
      decide
    rw [no t fun p hp => (h1 _ _ (ok.1 p hp).1.1 (ok.1 p hp).1.2 (ok.1 p hp).2.1 (ok.1 p hp).2.2 (tied p hp)).1, Bool.false_or] at kt
    rw [no s fun p hp => (h1 _ _ (ok.1 p hp).1.1 (ok.1 p hp).1.2 (ok.1 p hp).2.1 (ok.1 p hp).2.2 (tied p hp)).2, Bool.false_or] at ks
    rw [Bool.false_or]
    cases hf : r.fin with
    | none => rw [hf] at kt; exact kt
    | some p =>
      rw [hf] at kt ks
      obtain ⟨⟨a0, a1⟩, b0, b1⟩ := ok.2 p hf
      exact decide_eq_true (h2 _ _ a0 a1 b0 b1 (of_decide_eq_true kt) (of_decide_eq_true ks))
theorem std_range {ns : List Int} {m : Int} (hm : -1 ≤ m) (h : ∀ k, k ∈ ns ↔ 0 ≤ k ∧ k ≤ m) : StdR ns ∧ topI ns = m := by
  have pos : ∀ n ∈ ns, 0 ≤ n := fun n hn => ((h n).mp hn).1
  have top : topI ns = m := by
    by_cases e : ns = []
    · subst e
      have := (h 0).mpr
      by_cases z : 0 ≤ m
      · have := this ⟨by omega, z⟩
        cases this
      · show (-1 : Int) = m
        omega
    · have a := (h _).mp (topI_mem e pos)
      have b := topI_ge ((h m).mpr ⟨by omega, Int.le_refl _⟩)
      omega
  refine ⟨⟨pos, ?_⟩, top⟩
  have ec : canon ns = (List.range (m + 1).toNat).map fun i => ((i : Nat) : Int) := by
    refine up_eq (up_canon _) ?_ fun v => ?_
    · refine List.Pairwise.map _ (fun a b h => ?_) List.pairwise_lt_range
      omega
    · rw [mem_canon, h, List.mem_map]
      constructor
      · rintro ⟨a, b⟩
        exact ⟨v.toNat, List.mem_range.mpr (by omega), by omega⟩
      · rintro ⟨i, hi, rfl⟩
        have := List.mem_range.mp hi
        omega
  rw [ec, List.length_map, List.length_range, top]
  omega
theorem std_turned {ns : List Int} (h : StdR ns) : StdR (turnedI ns) ∧ topI (turnedI ns) = topI ns := by
  refine std_range (topI_lo ns) fun k => ?_
  unfold turnedI
  rw [List.mem_map]
  constructor
  · rintro ⟨v, hv, rfl⟩
    have := topI_ge hv
    have := h.pos v hv
    omega
  · rintro ⟨k0, k1⟩
    exact ⟨topI ns - k, full_mem h.pos h.full (by omega) (by omega), by omega⟩
theorem turned_len (ns : List Int) : (turnedI ns).length = ns.length := List.length_map _
theorem at_turned {ns : List Int} {i : Int} (h0 : 0 ≤ i) (h1 : i < ns.length) : at_ (turnedI ns) i = topI ns - at_ ns i := by
  have h := get_at (d := turnedI ns) h0 (by rw [turned_len]; exact h1)
  unfold turnedI at h
  rw [List.getElem?_map, get_at h0 h1] at h
  exact (Option.some.inj h).symm
theorem keeps_sorted {n : Nat} {r : RuleT} (ok : inN n r) {t s u : List Int} {c : Int} (ht : t.length = n) (hs : s.length = n) (h : Rks tLt (keys3 t c s) u) (kt : keepsB r t = true) (ks : keepsB r s = true) : keepsB r u = true :=
  keeps_of ok (fun x y x0 x1 y0 y1 e => tie_down ht hs h x0 x1 y0 y1 e) (fun x y x0 x1 y0 y1 e1 e2 => le_up ht hs h x0 x1 y0 y1 e1 e2) kt ks
theorem keeps_turned {n : Nat} {r : RuleT} (ok : inN n r) {t s u : List Int} {c : Int} (ht : t.length = n) (hs : s.length = n) (h : Rks tLt (keys3 (turnedI t) c (turnedI s)) u) (kt : keepsB r t = true) (ks : keepsB r s = true) : keepsB r (turnedI u) = true := by
  have lt : (turnedI t).length = n := by rw [turned_len, ht]
  have ls : (turnedI s).length = n := by rw [turned_len, hs]
  have lu : u.length = n := by rw [h.len, keys3_len (by omega), lt]
  refine keeps_of ok (fun x y x0 x1 y0 y1 e => ?_) (fun x y x0 x1 y0 y1 e1 e2 => ?_) kt ks
  · rw [at_turned x0 (by omega), at_turned y0 (by omega)] at e
    have := tie_down lt ls h x0 x1 y0 y1 (by omega)
    rw [at_turned x0 (by omega), at_turned y0 (by omega), at_turned x0 (by omega), at_turned y0 (by omega)] at this
    omega
  · rw [at_turned x0 (by omega), at_turned y0 (by omega)]
    have := le_up lt ls h y0 y1 x0 x1 (by rw [at_turned x0 (by omega), at_turned y0 (by omega)]; omega) (by rw [at_turned x0 (by omega), at_turned y0 (by omega)]; omega)
    omega
end K65

namespace K65
open PySem PySem.Spec PyProof.Rows L2 Dl Ns Zs Rk
abbrev s_law : Stmt := top 32
abbrev N_law : List Str := ["_law_script", "_law_hand_here", "_law_n", "_law_rules_here", "_law_due", "_law_k", "_law_places", "_law_t", "_law_s", "_law_ranks_here", "_law_cut", "_law_odd", "_law_gap", "_law_longer", "_law_told", "_law_dating"]
theorem sc_law : FnScope N_law ["_law_script"] (defScope s_law) := ⟨rfl, rfl, rfl, by decide +kernel, rfl, by decide +kernel, by decide +kernel⟩
def d_law (K : PySem.W.Frag) (hd : Addr) (Ed : DEnv → Exc → Prop) : TSD := sSeq (sAsg 2 (dOp fIx (dLst (dInts [3, 4, 3, 4, 2, 5, 4, 1])) (dCall ((C__law_take hd)) [] Ed (dCons (dVar 1) (dCons (dC (.int 8)) (dNil)))))) (sSeq (sAsg 3 (dCall ((C__law_rules K hd)) [] Ed (dCons (dVar 1) (dCons (dVar 2) (dCons (dC (.int 8)) (dNil)))))) (sSeq (sAsg 4 (dF (fLc (idSeq (dCall ((C__law_standings K)) [] Ed (dCons (dVar 2) (dNil)))) (gdName 15) (dB (dCall ((C__law_keep_all K)) [] (fun _ _ => False) (dCons (dVar 3) (dCons (dVar 15) (dNil))))) (dVar 15) (([("_law_dating", 15)] : List (Str × Nat)).map (·.2))))) (sSeq (sFor (idRng1 (dCons (dIf (dTest (dOp fGt (dCB bLen (dCons (dVar 4) (dNil))) (dC (.int 0)))) (dC (.int 12)) (dC (.int 0))) (dNil))) (gdName 5) (sSeq (sAsg 7 (dOp fIx (dVar 4) (dCall ((C__law_take hd)) [] Ed (dCons (dVar 1) (dCons (dCB bLen (dCons (dVar 4) (dNil))) (dNil)))))) (sSeq (sAsg 8 (dOp fIx (dVar 4) (dCall ((C__law_take hd)) [] Ed (dCons (dVar 1) (dCons (dCB bLen (dCons (dVar 4) (dNil))) (dNil)))))) (sSeq (sAsg 10 (dCall ((C__law_take hd)) [] Ed (dCons (dVar 1) (dCons (dOp fAdd (dCB (bTop true) (dCons (dVar 7) (dNil))) (dC (.int 2))) (dNil))))) (sSeq (sAsg 14 (dCall ((C_sorted_over K)) [] Ed (dCons (dCB bLst (dCons (dVar 7) (dNil))) (dCons (dVar 10) (dCons (dVar 8) (dNil)))))) (sSeq (sIf (dOr (dNot (dB (dCall ((C__law_plain K)) [] Ed (dCons (dVar 14) (dCons (dVar 2) (dNil)))))) (dOr (dTest (dOp (fIn true) (dVar 14) (dVar 4))) (dTest (dOp (fEq true) (dVar 14) (dCall ((C__law_sorted K)) [] Ed (dCons (dVar 7) (dCons (dVar 10) (dCons (dVar 8) (dNil))))))))) (sRet (dC (.bl false))) (sNext)) (sSeq (sAsg 14 (dCall ((C_sorted_over K)) [] Ed (dCons (dCall ((C__law_turned K)) [] Ed (dCons (dVar 7) (dNil))) (dCons (dVar 10) (dCons (dCall ((C__law_turned K)) [] Ed (dCons (dVar 8) (dNil))) (dNil)))))) (sIf (dTest (dOp (fIn true) (dCall ((C__law_turned K)) [] Ed (dCons (dVar 14) (dNil))) (dVar 4))) (sRet (dC (.bl false))) (sNext))))))))) (sSeq (sAsg 6 (dCall ((C__law_take hd)) [] Ed (dCons (dVar 1) (dCons (dC (.int 8)) (dNil))))) (sSeq (sAsg 7 (dCall ((C__law_standing K hd)) [] Ed (dCons (dVar 1) (dCons (dVar 6) (dNil))))) (sSeq (sAsg 8 (dCall ((C__law_standing K hd)) [] Ed (dCons (dVar 1) (dCons (dVar 6) (dNil))))) (sSeq (sAsg 9 (dIf (dTest (dOp fGt (dVar 6) (dC (.int 0)))) (dOp fAdd (dCB (bTop true) (dCons (dVar 7) (dNil))) (dC (.int 1))) (dC (.int 0)))) (sSeq (sAsg 10 (dCall ((C__law_take hd)) [] Ed (dCons (dVar 1) (dCons (dOp fAdd (dVar 9) (dC (.int 1))) (dNil))))) (sSeq (sIf (dOr (dTest (dOp (fEq true) (dCall ((C_sorted_over K)) [] Ed (dCons (dVar 7) (dCons (dVar 10) (dCons (dVar 8) (dNil))))) (dCall ((C__law_sorted K)) [] Ed (dCons (dVar 7) (dCons (dVar 10) (dCons (dVar 8) (dNil))))))) (dTest (dOp (fEq true) (dCall ((C_sorted_over K)) [] Ed (dCons (dVar 7) (dCons (dC (.int 0)) (dCons (dVar 8) (dNil))))) (dCall ((C__law_sorted K)) [] Ed (dCons (dVar 8) (dCons (dOp fAdd (dVar 9) (dC (.int 9))) (dCons (dVar 7) (dNil)))))))) (sRet (dC (.bl false))) (sNext)) (sSeq (sAsg 11 (dOp fIx (dLst (dCons (dUn (fUn fun i => -i) (dC (.int 1))) (dCons (dOp fAdd (dVar 9) (dC (.int 1))) (dCons (dOp fAdd (dOp fAdd (dVar 9) (dC (.int 1))) (dCall ((C__law_take hd)) [] Ed (dCons (dVar 1) (dCons (dOp fPow (dC (.int 10)) (dC (.int 9))) (dNil))))) (dCons (dC .non) (dCons (dC (.bl true)) (dCons (dC (.str "0")) (dNil)))))))) (dCall ((C__law_take hd)) [] Ed (dCons (dVar 1) (dCons (dC (.int 6)) (dNil)))))) (sSeq (sAsg 12 (dLst (dCons (dC (.int 0)) (dCons (dC (.int 2)) (dNil))))) (sSeq (sIf (dOr (dTest (dOp (fEq true) (dCall ((C__law_word K)) [] Ed (dCons (dVar 7) (dCons (dVar 11) (dCons (dVar 12) (dNil))))) (dC (.str "cut")))) (dTest (dOp (fEq true) (dCall ((C__law_word K)) [] Ed (dCons (dVar 12) (dCons (dVar 11) (dCons (dVar 8) (dNil))))) (dTup (dCons (dC (.str "standing")) (dCons (dUn (fUn fun i => -i) (dC (.int 1))) (dNil))))))) (sRet (dC (.bl false))) (sNext)) (sSeq (sIf (dOr (dTest (dOp (fEq true) (dCall ((C__law_word K)) [] Ed (dCons (dVar 7) (dCons (dVar 10) (dCons (dVar 12) (dNil))))) (dTup (dCons (dC (.str "standing")) (dCons (dUn (fUn fun i => -i) (dC (.int 1))) (dNil)))))) (dTest (dOp (fEq true) (dCall ((C__law_word K)) [] Ed (dCons (dVar 7) (dCons (dVar 10) (dCons (dLst (dCons (dC (.int 0)) (dCons (dUn (fUn fun i => -i) (dC (.int 1))) (dNil)))) (dNil))))) (dTup (dCons (dC (.str "standing")) (dCons (dC (.int 1)) (dNil))))))) (sRet (dC (.bl false))) (sNext)) (sSeq (sAsg 13 (dIf (dTest (dOp (fEq false) (dVar 6) (dC (.int 7)))) (dOp fRepT (dTup (dCons (dC (.int 0)) (dNil))) (dOp fSub (dVar 6) (dC (.int 1)))) (dOp fRepT (dTup (dCons (dC (.int 0)) (dNil))) (dOp fAdd (dVar 6) (dC (.int 1)))))) (sRet (dAndV (dOp (fEq false) (dCall ((C__law_word K)) [] Ed (dCons (dVar 7) (dCons (dVar 10) (dCons (dVar 13) (dNil))))) (dC (.str "places"))) (dOp (fEq false) (dCall ((C__law_word K)) [] Ed (dCons (dVar 7) (dCons (dVar 10) (dCons (dVar 8) (dNil))))) (dC (.str "good")))))))))))))))))))
theorem pd_law {P : Program} {w : World} {K : PySem.W.Frag} {mg : Str → Option Value} {base : Heap} {I : HI} {fa : Addr} {hd : Addr} {cdv : Value} {A : Around} {outer : List Env} {s : Shared} {H : Hp} {E : XK} {Ed : Exc → Prop} (T : Tf K mg) (c__law_keep_all : Cl P w K mg base I 3 "_law_keep_all" 2 (C__law_keep_all K) []) (c__law_plain : Cl P w K mg base I 3 "_law_plain" 2 (C__law_plain K) []) (c__law_rules : Cl P w K mg base I 5 "_law_rules" 3 (C__law_rules K hd) []) (c__law_sorted : Cl P w K mg base I 3 "_law_sorted" 3 (C__law_sorted K) []) (c__law_standing : Cl P w K mg base I 4 "_law_standing" 2 (C__law_standing K hd) []) (c__law_standings : Cl P w K mg base I 2 "_law_standings" 1 (C__law_standings K) []) (c__law_take : Cl P w K mg base I 3 "_law_take" 2 (C__law_take hd) []) (c__law_turned : Cl P w K mg base I 2 "_law_turned" 1 (C__law_turned K) []) (c__law_word : Cl P w K mg base I 7 "_law_word" 3 (C__law_word K) []) (c_sorted_over : Cl P w K mg base I 6 "sorted_over" 3 (C_sorted_over K) [])
    (hr : Room 7 (A.deeper (envOfC "law" (defScope s_law) s.heap.objs.size fa cdv))) (tk : Takes (cxD P w K mg base N_law "law" (defScope s_law) fa cdv A outer s H E) (gOf I Ed E).W) :
    PSsD (cxD P w K mg base N_law "law" (defScope s_law) fa cdv A outer s H E) (gOf I Ed E) (defBody s_law).tail (d_law K hd (gOf I Ed E).Ed) :=
  have nd := sc_law.nd; ds_cons (ds_set (i := 2) nd rfl (by first | exact Or.inl rfl | exact Or.inr rfl) (d_ix (d_lst (da_lits (ns := [3, 4, 3, 4, 2, 5, 4, 1]) rfl)) (d_callC c__law_take (ar__law_take _) hr (by decide) rfl tk (da_cons (dv 1) (da_cons (d_int) (da_nil)))))) (ds_cons (ds_set (i := 3) nd rfl (by first | exact Or.inl rfl | exact Or.inr rfl) (d_callC c__law_rules (ar__law_rules _) hr (by decide) rfl tk (da_cons (dv 1) (da_cons (dv 2) (da_cons (d_int) (da_nil)))))) (ds_cons (ds_lcV (i := 4) rfl nd rfl rfl (sw_true rfl rfl rfl (by decide +kernel)) (di_seq (d_callC c__law_standings (ar__law_standings _) hr (by decide) rfl tk (da_cons (dv 2) (da_nil)))) (blkOk_by (own := [("_law_dating", 15)]) (N := N_law) (sc := defScope s_law) (by decide +kernel)) (fun _ _ _ _ _ => pg_name (i := 15) nd rfl (by first | exact Or.inl rfl | exact Or.inr rfl)) sg_name (gw_name (by decide)) (bt_one (fun _ _ _ _ _ => dt_val (d_callC c__law_keep_all (ar__law_keep_all _) hr (by decide) rfl takes0 (da_cons (dv 3) (da_cons (dv 15) (da_nil)))))) (be_of (fun _ _ _ _ _ => dv 15))) (ds_cons (ds_for (passes_of rfl) rfl (di_range1 rfl T.n_range (da_cons (d_ifExp (dt_cmp r_gt (d_callB c_len rfl T.n_len PySem.boot_len (da_cons (dv 4) (da_nil))) (d_int) (nomark _)) (d_int) (d_int)) (da_nil))) (dg_name (i := 5) nd rfl (by first | exact Or.inl rfl | exact Or.inr rfl)) (ds_cons (ds_set (i := 7) nd rfl (by first | exact Or.inl rfl | exact Or.inr rfl) (d_ix (dv 4) (d_callC c__law_take (ar__law_take _) hr (by decide) rfl tk (da_cons (dv 1) (da_cons (d_callB c_len rfl T.n_len PySem.boot_len (da_cons (dv 4) (da_nil))) (da_nil)))))) (ds_cons (ds_set (i := 8) nd rfl (by first | exact Or.inl rfl | exact Or.inr rfl) (d_ix (dv 4) (d_callC c__law_take (ar__law_take _) hr (by decide) rfl tk (da_cons (dv 1) (da_cons (d_callB c_len rfl T.n_len PySem.boot_len (da_cons (dv 4) (da_nil))) (da_nil)))))) (ds_cons (ds_set (i := 10) nd rfl (by first | exact Or.inl rfl | exact Or.inr rfl) (d_callC c__law_take (ar__law_take _) hr (by decide) rfl tk (da_cons (dv 1) (da_cons (d_op r_add (d_callB (c_top true rfl (h64 hr)) rfl T.n_max boot_max (da_cons (dv 7) (da_nil))) (d_int)) (da_nil))))) (ds_cons (ds_set (i := 14) nd rfl (by first | exact Or.inl rfl | exact Or.inr rfl) (d_callC c_sorted_over (ar_sorted_over _) hr (by decide) rfl tk (da_cons (d_callTy c_lst rfl T.n_list boot_list (da_cons (dv 7) (da_nil))) (da_cons (dv 10) (da_cons (dv 8) (da_nil)))))) (ds_cons (ds_if (PWD.pt (dt_or (dt_not (dt_val (d_callC c__law_plain (ar__law_plain _) hr (by decide) rfl tk (da_cons (dv 14) (da_cons (dv 2) (da_nil)))))) (dt_or (dt_cmp (r_nin (h65 hr)) (dv 14) (dv 4) (by with_unfolding_all rfl)) (dt_or1 (dt_cmp (r_ne (h64 hr)) (dv 14) (d_callC c__law_sorted (ar__law_sorted _) hr (by decide) rfl tk (da_cons (dv 7) (da_cons (dv 10) (da_cons (dv 8) (da_nil))))) (nomark _)))))) (ds_one (ds_ret (d_bl))) (ds_nil)) (ds_cons (ds_set (i := 14) nd rfl (by first | exact Or.inl rfl | exact Or.inr rfl) (d_callC c_sorted_over (ar_sorted_over _) hr (by decide) rfl tk (da_cons (d_callC c__law_turned (ar__law_turned _) hr (by decide) rfl tk (da_cons (dv 7) (da_nil))) (da_cons (dv 10) (da_cons (d_callC c__law_turned (ar__law_turned _) hr (by decide) rfl tk (da_cons (dv 8) (da_nil))) (da_nil)))))) (ds_one (ds_if (dt_cmp (r_nin (h65 hr)) (d_callC c__law_turned (ar__law_turned _) hr (by decide) rfl tk (da_cons (dv 14) (da_nil))) (dv 4) (by with_unfolding_all rfl)) (ds_one (ds_ret (d_bl))) (ds_nil)))))))))) (ds_cons (ds_set (i := 6) nd rfl (by first | exact Or.inl rfl | exact Or.inr rfl) (d_callC c__law_take (ar__law_take _) hr (by decide) rfl tk (da_cons (dv 1) (da_cons (d_int) (da_nil))))) (ds_cons (ds_set (i := 7) nd rfl (by first | exact Or.inl rfl | exact Or.inr rfl) (d_callC c__law_standing (ar__law_standing _) hr (by decide) rfl tk (da_cons (dv 1) (da_cons (dv 6) (da_nil))))) (ds_cons (ds_set (i := 8) nd rfl (by first | exact Or.inl rfl | exact Or.inr rfl) (d_callC c__law_standing (ar__law_standing _) hr (by decide) rfl tk (da_cons (dv 1) (da_cons (dv 6) (da_nil))))) (ds_cons (ds_set (i := 9) nd rfl (by first | exact Or.inl rfl | exact Or.inr rfl) (d_ifExp (dt_cmp r_gt (dv 6) (d_int) (nomark _)) (d_op r_add (d_callB (c_top true rfl (h64 hr)) rfl T.n_max boot_max (da_cons (dv 7) (da_nil))) (d_int)) (d_int))) (ds_cons (ds_set (i := 10) nd rfl (by first | exact Or.inl rfl | exact Or.inr rfl) (d_callC c__law_take (ar__law_take _) hr (by decide) rfl tk (da_cons (dv 1) (da_cons (d_op r_add (dv 9) (d_int)) (da_nil))))) (ds_cons (ds_if (PWD.pt (dt_or (dt_cmp (r_ne (h64 hr)) (d_callC c_sorted_over (ar_sorted_over _) hr (by decide) rfl tk (da_cons (dv 7) (da_cons (dv 10) (da_cons (dv 8) (da_nil))))) (d_callC c__law_sorted (ar__law_sorted _) hr (by decide) rfl tk (da_cons (dv 7) (da_cons (dv 10) (da_cons (dv 8) (da_nil))))) (nomark _)) (dt_or1 (dt_cmp (r_ne (h64 hr)) (d_callC c_sorted_over (ar_sorted_over _) hr (by decide) rfl tk (da_cons (dv 7) (da_cons (d_int) (da_cons (dv 8) (da_nil))))) (d_callC c__law_sorted (ar__law_sorted _) hr (by decide) rfl tk (da_cons (dv 8) (da_cons (d_op r_add (dv 9) (d_int)) (da_cons (dv 7) (da_nil))))) (nomark _))))) (ds_one (ds_ret (d_bl))) (ds_nil)) (ds_cons (ds_set (i := 11) nd rfl (by first | exact Or.inl rfl | exact Or.inr rfl) (d_ix (d_lst (da_cons (d_neg (d_int)) (da_cons (d_op r_add (dv 9) (d_int)) (da_cons (d_op r_add (d_op r_add (dv 9) (d_int)) (d_callC c__law_take (ar__law_take _) hr (by decide) rfl tk (da_cons (dv 1) (da_cons (d_op r_pow (d_int) (d_int)) (da_nil))))) (da_cons (d_non) (da_cons (d_bl) (da_cons (d_str) (da_nil)))))))) (d_callC c__law_take (ar__law_take _) hr (by decide) rfl tk (da_cons (dv 1) (da_cons (d_int) (da_nil)))))) (ds_cons (ds_set (i := 12) nd rfl (by first | exact Or.inl rfl | exact Or.inr rfl) (d_lst (da_cons (d_int) (da_cons (d_int) (da_nil))))) (ds_cons (ds_if (PWD.pt (dt_or (dt_cmp (r_ne (h64 hr)) (d_callC c__law_word (ar__law_word _) hr (by decide) rfl tk (da_cons (dv 7) (da_cons (dv 11) (da_cons (dv 12) (da_nil))))) (d_str) (nomark _)) (dt_or1 (dt_cmp (r_ne (h64 hr)) (d_callC c__law_word (ar__law_word _) hr (by decide) rfl tk (da_cons (dv 12) (da_cons (dv 11) (da_cons (dv 8) (da_nil))))) (d_tup (da_cons (d_str) (da_cons (d_neg (d_int)) (da_nil)))) (nomark _))))) (ds_one (ds_ret (d_bl))) (ds_nil)) (ds_cons (ds_if (PWD.pt (dt_or (dt_cmp (r_ne (h64 hr)) (d_callC c__law_word (ar__law_word _) hr (by decide) rfl tk (da_cons (dv 7) (da_cons (dv 10) (da_cons (dv 12) (da_nil))))) (d_tup (da_cons (d_str) (da_cons (d_neg (d_int)) (da_nil)))) (nomark _)) (dt_or1 (dt_cmp (r_ne (h64 hr)) (d_callC c__law_word (ar__law_word _) hr (by decide) rfl tk (da_cons (dv 7) (da_cons (dv 10) (da_cons (d_lst (da_cons (d_int) (da_cons (d_neg (d_int)) (da_nil)))) (da_nil))))) (d_tup (da_cons (d_str) (da_cons (d_int) (da_nil)))) (nomark _))))) (ds_one (ds_ret (d_bl))) (ds_nil)) (ds_cons (ds_set (i := 13) nd rfl (by first | exact Or.inl rfl | exact Or.inr rfl) (d_ifExp (dt_cmp (r_eq (h64 hr)) (dv 6) (d_int) (nomark _)) (d_op r_repT (d_tup (da_cons (d_int) (da_nil))) (d_op r_sub (dv 6) (d_int))) (d_op r_repT (d_tup (da_cons (d_int) (da_nil))) (d_op r_add (dv 6) (d_int))))) (ds_one (ds_ret (d_and (d_cmp (r_eq (h64 hr)) (d_callC c__law_word (ar__law_word _) hr (by decide) rfl tk (da_cons (dv 7) (da_cons (dv 10) (da_cons (dv 13) (da_nil))))) (d_str) (nomark _)) (d_one (d_cmp (r_eq (h64 hr)) (d_callC c__law_word (ar__law_word _) hr (by decide) rfl tk (da_cons (dv 7) (da_cons (dv 10) (da_cons (dv 8) (da_nil))))) (d_str) (nomark _))))))))))))))))))))
end K65

namespace K65
open PySem PySem.Spec PyProof.Rows L2 Dl Ns Zs Zz Rk Rd
theorem wh_all : ∀ {ns : List Int} {pre : List D}, (∀ n ∈ ns, 0 ≤ n) → fstBad (fun _ d => !isWh d (.int 0) .non) pre (ns.map D.int) = none
  | [], _, _ => rfl
  | n :: ns, pre, h => by
    rw [List.map_cons, fstBad_cons]
    have : isWh (.int n) (.int 0) .non = true := by
      show (decide ((0 : Int) ≤ n) && true) = true
      rw [decide_eq_true (h n List.mem_cons_self)]
      rfl
    rw [this, if_neg (by decide)]
    exact wh_all fun k hk => h k (List.mem_cons_of_mem _ hk)
theorem std_ask {K : PySem.W.Frag} {x : D} {ns : List Int} {Q : List Int → Prop} {E : Exc → Prop} (hs : isSeqI x ns) (st : StdR ns) (few : ns.length ≤ 7) (q : Q ns) : stdAsk K x .non Q E := by
  refine ⟨?_, trivial, ?_⟩
  · rcases isSeqI_cases hs with rfl | rfl <;> rfl
  · rw [hs]
    dsimp only
    refine ⟨fun d hd => ?_, ?_⟩
    · obtain ⟨n, _, rfl⟩ := List.mem_map.mp hd
      rfl
    · rw [List.length_map, if_neg (by omega), if_neg (show ¬ offLen .non _ = true from Bool.false_ne_true), wh_all st.pos]
      exact ⟨ns, rfl, by rw [if_pos st.full]; exact q⟩
theorem over_ok {K : PySem.W.Frag} {one other : D} {t s : List Int} {c : Int} {Q : List Int → Int → List Int → Prop} {E : Exc → Prop} (h1 : isSeqI one t) (h2 : isSeqI other s) (st : StdR t) (ss : StdR s) (hl : t.length = s.length) (few : t.length ≤ 7) (c0 : 0 ≤ c) (c1 : c ≤ topI t + 1) (q : Q t c s) : overAsk K one (.int c) other Q E := by
  refine std_ask h1 st few ⟨rfl, ?_⟩
  have : isWh (.int c) (.int 0) (.int (topI t + 1)) = true := by
    show (decide ((0 : Int) ≤ c) && decide (c ≤ topI t + 1)) = true
    rw [decide_eq_true c0, decide_eq_true c1]
    rfl
  rw [if_pos this]
  exact std_ask h2 ss (by omega) (by rw [if_pos hl]; intro c' e; cases e; exact q)
theorem over_cut {K : PySem.W.Frag} {one cut other : D} {t : List Int} {Q : List Int → Int → List Int → Prop} {E : Exc → Prop} (h1 : isSeqI one t) (st : StdR t) (few : t.length ≤ 7) (ty : cut.tyn.isSome = true) (no : isWh cut (.int 0) (.int (topI t + 1)) = false) (q : E (exc0 K "BadCut")) : overAsk K one cut other Q E :=
  std_ask h1 st few ⟨ty, by rw [if_neg (by rw [no]; decide)]; exact q⟩
theorem gap_bad {K : PySem.W.Frag} {Q : List Int → Prop} {E : Exc → Prop} (q : E (excI K "BadStanding" (-1))) : stdAsk K (.lst [.int 0, .int 2]) .non Q E := by
  refine ⟨rfl, trivial, ?_⟩
  show allTy [D.int 0, D.int 2] ∧ _
  refine ⟨fun d hd => ?_, ?_⟩
  · simp only [List.mem_cons, List.not_mem_nil, or_false] at hd
    rcases hd with rfl | rfl <;> rfl
  · rw [if_neg (by decide), if_neg (by decide), show fstBad (fun _ d => !isWh d (.int 0) .non) [] [D.int 0, D.int 2] = none from wh_all (ns := [0, 2]) (by decide)]
    exact ⟨[0, 2], rfl, by rw [if_neg (by decide)]; exact q⟩
theorem neg_bad {K : PySem.W.Frag} {Q : List Int → Prop} {E : Exc → Prop} (q : E (excI K "BadStanding" 1)) : stdAsk K (.lst [.int 0, .int (-1)]) .non Q E := by
  refine ⟨rfl, trivial, ?_⟩
  show allTy [D.int 0, D.int (-1)] ∧ _
  refine ⟨fun d hd => ?_, ?_⟩
  · simp only [List.mem_cons, List.not_mem_nil, or_false] at hd
    rcases hd with rfl | rfl <;> rfl
  · rw [if_neg (by decide), if_neg (by decide)]
    exact q
theorem wh_in {t : List Int} {c : Int} (c0 : 0 ≤ c) (c1 : c ≤ topI t + 1) : isWh (.int c) (.int 0) (.int (topI t + 1)) = true := by
  show (decide ((0 : Int) ≤ c) && decide (c ≤ topI t + 1)) = true
  rw [decide_eq_true c0, decide_eq_true c1]
  rfl
theorem over_other {K : PySem.W.Frag} {one other : D} {t : List Int} {c : Int} {Q : List Int → Int → List Int → Prop} {E : Exc → Prop} (h1 : isSeqI one t) (st : StdR t) (few : t.length ≤ 7) (c0 : 0 ≤ c) (c1 : c ≤ topI t + 1) (q : ∀ Q', stdAsk K other .non Q' E) : overAsk K one (.int c) other Q E :=
  std_ask h1 st few ⟨rfl, by rw [if_pos (wh_in c0 c1)]; exact q _⟩
theorem over_far {K : PySem.W.Frag} {one other : D} {t s : List Int} {c : Int} {Q : List Int → Int → List Int → Prop} {E : Exc → Prop} (h1 : isSeqI one t) (h2 : isSeqI other s) (st : StdR t) (ss : StdR s) (hl : t.length ≠ s.length) (few : t.length ≤ 7) (few2 : s.length ≤ 7) (c0 : 0 ≤ c) (c1 : c ≤ topI t + 1) (q : E (exc0 K "OtherPlaces")) : overAsk K one (.int c) other Q E :=
  std_ask h1 st few ⟨rfl, by rw [if_pos (wh_in c0 c1)]; exact std_ask h2 ss few2 (by rw [if_neg hl]; exact q)⟩
theorem rEqSame {neg : Bool} {x : D} {Q : D → Prop} (h : okD x) (q : Q (.bl (xr neg true))) : fEq neg x x Q := ⟨h, h, by rw [eqD_refl h.1]; exact q⟩
theorem rInMem {neg : Bool} {x : D} {ys : List D} {Q : D → Prop} (h : okD x) (hy : okD (.lst ys)) (m : x ∈ ys) (q : Q (.bl (xr neg true))) : fIn neg x (.lst ys) Q := by
  refine in_lst h hy ?_
  have : anyD ys x = true := List.any_eq_true.mpr ⟨x, m, eqD_refl h.1⟩
  rw [this]
  exact q
theorem zeros_std (k : Nat) : StdR (List.replicate k 0) := by
  cases k with
  | zero => exact (std_range (m := -1) (by decide) fun k => ⟨fun h => (by cases h), fun h => by omega⟩).1
  | succ k => exact (std_range (m := 0) (by decide) fun j => ⟨fun h => by rw [List.eq_of_mem_replicate h]; decide, fun h => List.mem_replicate.mpr ⟨by omega, by omega⟩⟩).1
def keepD (rs : List RuleT) : D → Bool
  | .tup xs => rs.all fun r => keepsB r (intsOf xs)
  | _ => false
theorem filt_keep (rs : List RuleT) : ∀ Ls : List (List Int), ((Ls.map tupI).filter (keepD rs)).map (fun d => d) = (Ls.filter fun d => rs.all fun r => keepsB r d).map tupI
  | [] => rfl
  | d :: Ls => by
    have ih := filt_keep rs Ls
    rw [List.map_id'] at ih ⊢
    have e : keepD rs (tupI d) = rs.all fun r => keepsB r d := by
      show (rs.all fun r => keepsB r (intsOf (d.map D.int))) = _
      rw [intsOf_map]
    rw [List.map_cons, List.filter_cons, List.filter_cons, e]
    cases rs.all fun r => keepsB r d with
    | true => rw [if_pos rfl, if_pos rfl, List.map_cons, ih]
    | false => rw [if_neg (by decide), if_neg (by decide), ih]
theorem rks_one {ks : List (List Int)} {rs rs' : List Int} (h : Rks tLt ks rs) (h' : Rks tLt ks rs') : rs = rs' :=
  rks_eq h h' rfl fun i j a b a' b' e1 e2 e3 e4 => by
    rw [e1] at e3
    rw [e2] at e4
    cases e3
    cases e4
    exact Iff.rfl
theorem rks_two {t s : List Int} {rs rs' : List Int} (hl : t.length = s.length) (st : StdR t) (ss : StdR s) (c : Int) (hc : ∀ n ∈ s, n < c) (h : Rks tLt (keys3 t 0 s) rs) (h' : Rks tLt (keys3 s c t) rs') : rs = rs' := by
  refine rks_eq h h' (by rw [keys3_len hl, keys3_len hl.symm, hl]) fun i j a b a' b' e1 e2 e3 e4 => ?_
  obtain ⟨x1, x2, f1, f2, rfl⟩ := keys3_at e1
  obtain ⟨y1, y2, g1, g2, rfl⟩ := keys3_at e2
  obtain ⟨x2', x1', f1', f2', rfl⟩ := keys3_at e3
  obtain ⟨y2', y1', g1', g2', rfl⟩ := keys3_at e4
  rw [f2] at f1'
  rw [f1] at f2'
  rw [g2] at g1'
  rw [g1] at g2'
  cases f1'
  cases f2'
  cases g1'
  cases g2'
  have a0 := st.pos _ (List.mem_of_getElem? f1)
  have b0 := st.pos _ (List.mem_of_getElem? g1)
  have a1 := hc _ (List.mem_of_getElem? f2)
  have b1 := hc _ (List.mem_of_getElem? g2)
  rw [if_neg (by omega), if_neg (by omega), if_pos a1, if_pos b1, lt3, lt3]
  omega
end K65

namespace K65
open PySem PySem.Spec PyProof.Rows L2 Dl Ns Zs Zz Rk Rd
local macro_rules
  | `(tactic| decreasing_trivial_pre_omega) => `(tactic| first
  | ((with_reducible apply Rd.rVar); (rfl); (rfl))
  | (with_reducible refine Rd.rC ?_)
  | (with_reducible refine Rd.rCons ?_)
  | (with_reducible refine Rd.rNil ?_)
  | (with_reducible refine Rd.rInts ?_)
  | (with_reducible refine Rd.rOp ?_)
  | (with_reducible refine Rd.rUn ?_)
  | (with_reducible refine Rd.rNeg ?_)
  | (with_reducible refine Rd.rTest ?_)
  | (with_reducible refine Rd.rB ?_)
  | (with_reducible refine Rd.rEx ?_)
  | (with_reducible refine Rd.rAnd ?_)
  | (with_reducible refine Rd.rOr ?_)
  | (with_reducible refine Rd.rNot ?_)
  | (with_reducible refine Rd.rYes ?_)
  | (with_reducible refine Rd.rAndV ?_)
  | (with_reducible refine Rd.rOrV ?_)
  | (with_reducible refine Rd.rNotV ?_)
  | (with_reducible refine Rd.rIfE ?_)
  | (with_reducible refine Rd.rTup ?_)
  | (with_reducible refine Rd.rLst ?_)
  | (with_reducible refine Rd.rFLst ?_)
  | ((with_reducible refine Rd.rSz ?_ ?_); (first | decide | exact of_decide_eq_true rfl))
  | (with_reducible refine Rd.rF ?_)
  | (with_reducible refine Rd.rCB ?_)
  | (with_reducible refine Rd.rCall ?_)
  | (with_reducible refine Rd.rSl ?_)
  | (with_reducible refine Rd.rNoP ?_)
  | (with_reducible refine Rd.rPart ?_)
  | (with_reducible refine Rd.rExI ?_)
  | (with_reducible refine Rd.rSub ?_)
  | (with_reducible refine Rd.rAdd ?_)
  | (with_reducible refine Rd.rLt ?_)
  | (with_reducible refine Rd.rEqI ?_)
  | (with_reducible refine Rd.rLenT ?_)
  | (with_reducible refine Rd.rLenL ?_)
  | (with_reducible refine Rd.rTupT ?_)
  | (with_reducible refine Rd.rTupL ?_)
  | (with_reducible refine Rd.rLstT ?_)
  | (with_reducible refine Rd.rLstL ?_)
  | (with_reducible refine Rd.rSeq ?_)
  | (with_reducible refine Rd.rNext ?_)
  | (with_reducible refine Rd.rRet ?_)
  | (with_reducible refine Rd.rIf ?_)
  | (with_reducible refine Rd.rAsg ?_)
  | ((with_reducible refine Rd.rKeep ?_ ?_); (first | exact Or.inl rfl | exact Or.inr rfl | assumption))
  | (with_reducible refine Rd.rNew ?_)
  | ((with_reducible refine Rd.rNewK ?_ ?_ ?_); (exact Nat.le_of_ble_eq_true rfl); (first | exact Or.inl rfl | exact Or.inr rfl | assumption))
  | (with_reducible refine Rd.rYesT ?_)
  | (with_reducible refine Rd.rNoT ?_)
  | (with_reducible refine Rd.rN1 ?_)
  | (with_reducible refine Rd.rN2 ?_)
  | (with_reducible refine Rd.rX1 ?_)
  | (with_reducible refine Rd.rX2 ?_)
  | (with_reducible refine Rd.rX3 ?_)
  | (with_reducible refine Rd.rX4 ?_)
  | (with_reducible refine Rd.rLc ?_)
  | (with_reducible refine Rd.rDn ?_)
  | (with_reducible refine Rd.rEnum ?_)
  | (with_reducible refine Rd.rSeqI ?_)
  | (with_reducible refine Rd.rDrop ?_)
  | (with_reducible refine Rd.rFor ?_)
  | ((with_reducible apply Rd.rVarI); (rfl); (rfl))
  | (with_reducible refine Rd.rGdN ?_)
  | ((with_reducible refine Rd.rGdT ?_ ?_); (rfl))
  | (with_reducible refine Rd.rRng ?_)
  | ((with_reducible refine Rd.rKeep ?_ ?_); (exact Or.inr (tI_good _).2.2)))
def NoO (s : Slot) : Prop := s = .no ∨ ∃ d, s = .val d
theorem ok_w {a : Str} (h : PyData.strOk a = true) : okI (.str a) := ⟨by simp only [D.good]; exact h, by simp only [D.dep]; omega⟩
theorem ok_st {i : Int} : okD (.tup [.str "standing", .int i]) := okD_tup fun x hx => by
  simp only [List.mem_cons, List.not_mem_nil, or_false] at hx
  rcases hx with rfl | rfl
  · exact ok_w (by decide +kernel)
  · exact okI_int
theorem zeros_D (m : Nat) : (List.replicate m [D.int 0]).flatten = (List.replicate m 0).map D.int := by
  induction m with
  | zero => rfl
  | succ m ih => rw [List.replicate_succ, List.flatten_cons, ih, List.replicate_succ]; rfl
theorem ct_law {K : PySem.W.Frag} {hd : Addr} {ds : List D} : d_law K hd (fun _ _ => False) ⟨fun _ => False, fun d => d = .bl true, fun _ => False, fun _ => False⟩ (.val (scrD ds) :: .val (.ref hd) :: List.replicate 14 .no) := by
  unfold d_law
  repeat decreasing_trivial_pre_omega
  refine ⟨8, rfl, by decide, by decide, fun r r0 r1 => ?_⟩
  have hm := at_mem (d := [3, 4, 3, 4, 2, 5, 4, 1]) r0 r1
  have hb : ∀ x ∈ ([3, 4, 3, 4, 2, 5, 4, 1] : List Int), 1 ≤ x ∧ x ≤ 5 := by decide
  obtain ⟨v0, v4⟩ := hb _ hm
  refine rIxL (at_at (d := [3, 4, 3, 4, 2, 5, 4, 1]) r0 r1) ?_
  generalize at_ [3, 4, 3, 4, 2, 5, 4, 1] r = v at v0 v4
  obtain ⟨n, rfl⟩ : ∃ n : Nat, v = n := ⟨v.toNat, by omega⟩
  have n1 : 1 ≤ n := by omega
  have n5 : n ≤ 5 := by omega
  repeat decreasing_trivial_pre_omega
  refine ⟨n, rfl, n1, n5, fun rs hrs lrs => ?_⟩
  repeat decreasing_trivial_pre_omega
  refine ⟨n, rfl, n1, n5, fun Ls mL lL => ⟨.inl rfl, _, rfl, by rw [List.length_map]; omega, ?_⟩⟩
  refine lcD_map (fun d => d) (keepD rs) _ [] (fun d hd R hR => ?_) ?_
  · obtain ⟨p, hp, rfl⟩ := List.mem_map.mp hd
    obtain ⟨lp, sp⟩ := (mL p).mp hp
    repeat decreasing_trivial_pre_omega
    refine ⟨rs, p, rfl, fun r hr => by rw [lp]; exact hrs r hr, ?_⟩
    repeat decreasing_trivial_pre_omega
    have ek : keepD rs (tupI p) = rs.all fun r => keepsB r p := by
      show (rs.all fun r => keepsB r (intsOf (p.map D.int))) = _
      rw [intsOf_map]
    rw [ek] at hR
    cases hc : rs.all fun r => keepsB r p with
    | true =>
      rw [hc] at hR
      refine it_t rfl ?_
      repeat decreasing_trivial_pre_omega
      exact ⟨(tI_good p).2.2, hR⟩
    | false =>
      rw [hc] at hR
      exact it_f rfl hR
  · rw [List.nil_append, filt_keep]
    have hDue : ∀ d, d ∈ Ls.filter (fun d => rs.all fun r => keepsB r d) ↔ (d.length = n ∧ StdR d) ∧ ∀ r ∈ rs, keepsB r d = true := fun d => by
      rw [List.mem_filter, mL, List.all_eq_true]
    have lDue : (Ls.filter fun d => rs.all fun r => keepsB r d).length ≤ 3125 := Nat.le_trans (List.length_filter_le _ _) lL
    generalize Ls.filter (fun d => rs.all fun r => keepsB r d) = Due at hDue lDue
    refine ⟨.inl rfl, ?_⟩
    dsimp only
    refine seqD (P := fun env => ∃ s5 s7 s8 s10 s14, NoO s5 ∧ NoO s14 ∧ env = [.val (scrD ds), .val (.ref hd), .val (.int n), .val (.lst (rs.map ruleD)), .val (.lst (Due.map tupI)), s5, .no, s7, s8, .no, s10, .no, .no, .no, s14, .no]) (fun env hh => ?_) (fun tl => ?_)
    · obtain ⟨s5, s7, s8, s10, s14, h5, h14, rfl⟩ := hh
      clear hDue lDue mL lL hrs lrs
      repeat decreasing_trivial_pre_omega
      refine ⟨8, rfl, by decide, by decide, fun pl pl0 pl1 => ?_⟩
      obtain ⟨k, rfl⟩ : ∃ k : Nat, pl = k := ⟨pl.toNat, by omega⟩
      repeat decreasing_trivial_pre_omega
      refine ⟨k, rfl, by omega, fun t st lt => ?_⟩
      repeat decreasing_trivial_pre_omega
      refine ⟨k, rfl, by omega, fun s ss ls => ?_⟩
      repeat decreasing_trivial_pre_omega
      have tl0 := topI_lo t
      have tl1 := std_top st
      have hmax : ∀ Q : D → Prop, Q (.int (topI t + 1)) → (if decide ((0 : Int) < k) = true then dOp fAdd (dCB (bTop true) (dCons (dVar 7) dNil)) (dC (.int 1)) [.val (scrD ds), .val (.ref hd), .val (.int n), .val (.lst (rs.map ruleD)), .val (.lst (Due.map tupI)), s5, .val (.int k), .val (tupI t), .val (tupI s), .no, s10, .no, .no, .no, s14, .no] Q else dC (.int 0) [.val (scrD ds), .val (.ref hd), .val (.int n), .val (.lst (rs.map ruleD)), .val (.lst (Due.map tupI)), s5, .val (.int k), .val (tupI t), .val (tupI s), .no, s10, .no, .no, .no, s14, .no] Q) := fun Q q => by
        by_cases c : (0 : Int) < k
        · refine it_t (decide_eq_true c) ?_
          repeat decreasing_trivial_pre_omega
          refine ⟨t, .inr rfl, fun e => (by rw [e] at lt; simp at lt; omega), fun m tm => ?_⟩
          rw [topI_top st.pos tm]
          repeat decreasing_trivial_pre_omega
          exact q
        · refine it_f (decide_eq_false c) ?_
          have : t = [] := List.length_eq_zero_iff.mp (by omega)
          rw [this] at q
          repeat decreasing_trivial_pre_omega
          exact q
      refine hmax _ ?_
      repeat decreasing_trivial_pre_omega
      refine ⟨topI t + 1 + 1, rfl, by omega, by omega, fun cut c0 c1 => ?_⟩
      repeat decreasing_trivial_pre_omega
      refine ⟨_, _, _, rfl, over_ok (t := t) (s := s) rfl rfl st ss (by omega) (by omega) c0 (by omega) fun u hu => ?_⟩
      repeat decreasing_trivial_pre_omega
      refine ⟨t, cut, s, rfl, by omega, by omega, fun u' hu' => ?_⟩
      rw [← rks_one hu hu']
      refine rEqSame (ok_T u).ok ?_
      repeat decreasing_trivial_pre_omega
      refine ⟨_, _, _, rfl, over_ok (t := t) (s := s) rfl rfl st ss (by omega) (by omega) (Int.le_refl 0) (by omega) fun w hw => ?_⟩
      repeat decreasing_trivial_pre_omega
      refine ⟨s, topI t + 1 + 9, t, rfl, by omega, by omega, fun w' hw' => ?_⟩
      rw [← rks_two (by omega) st ss _ (fun n hn => by have := std_lt ss hn; omega) hw hw']
      refine rEqSame (ok_T w).ok ?_
      repeat decreasing_trivial_pre_omega
      refine rFI (by unfold CPow; decide) ?_
      repeat decreasing_trivial_pre_omega
      refine ⟨_, rfl, by decide, by decide, fun z z0 z1 => ?_⟩
      repeat decreasing_trivial_pre_omega
      refine ⟨6, rfl, by decide, by decide, fun o o0 o1 => ?_⟩
      have odd : ∃ x : D, atI [.int (-1), .int (topI t + 1 + 1), .int (topI t + 1 + 1 + z), .non, .bl true, .str "0"] o = some x ∧ x.noLst = true ∧ x.tyn.isSome = true ∧ isWh x (.int 0) (.int (topI t + 1)) = false := by
        rcases (show o = 0 ∨ o = 1 ∨ o = 2 ∨ o = 3 ∨ o = 4 ∨ o = 5 by omega) with rfl | rfl | rfl | rfl | rfl | rfl
        · exact ⟨_, rfl, rfl, rfl, rfl⟩
        · refine ⟨_, rfl, rfl, rfl, ?_⟩
          show (_ && decide _) = false
          rw [decide_eq_false (by omega), Bool.and_false]
        · refine ⟨_, rfl, rfl, rfl, ?_⟩
          show (_ && decide _) = false
          rw [decide_eq_false (by omega), Bool.and_false]
        · exact ⟨_, rfl, rfl, rfl, rfl⟩
        · exact ⟨_, rfl, rfl, rfl, rfl⟩
        · exact ⟨_, rfl, rfl, rfl, rfl⟩
      obtain ⟨x, ex, nx, tx, wx⟩ := odd
      refine rIxL ex ?_
      refine ⟨.inr nx, ?_⟩
      repeat decreasing_trivial_pre_omega
      refine ⟨.inl ?_, ?_⟩
      · rcases h5 with rfl | ⟨_, rfl⟩ <;> rcases h14 with rfl | ⟨_, rfl⟩ <;> rfl
      repeat decreasing_trivial_pre_omega
      refine ⟨_, _, _, rfl, over_cut (t := t) rfl st (by omega) tx wx (.inr (.inl ⟨rfl, ?_⟩))⟩
      repeat decreasing_trivial_pre_omega
      refine rEqSame (ok_w (by decide +kernel)).ok ?_
      repeat decreasing_trivial_pre_omega
      refine ⟨_, _, _, rfl, gap_bad (.inl ⟨_, rfl, ?_⟩)⟩
      repeat decreasing_trivial_pre_omega
      refine rEqSame ok_st ?_
      repeat decreasing_trivial_pre_omega
      refine ⟨_, _, _, rfl, over_other (t := t) rfl st (by omega) c0 (by omega) fun Q' => gap_bad (.inl ⟨_, rfl, ?_⟩)⟩
      repeat decreasing_trivial_pre_omega
      refine rEqSame ok_st ?_
      repeat decreasing_trivial_pre_omega
      refine ⟨_, _, _, rfl, over_other (t := t) rfl st (by omega) c0 (by omega) fun Q' => neg_bad (.inl ⟨_, rfl, ?_⟩)⟩
      repeat decreasing_trivial_pre_omega
      refine rEqSame ok_st ?_
      repeat decreasing_trivial_pre_omega
      have far : ∀ (m : Nat) (R : D → Prop), m ≤ 7 → m ≠ k → R (.str "places") → C__law_word K [tupI t, .int cut, tupI (List.replicate m 0)] R (fun _ => False) := fun m R m7 mk q =>
        ⟨_, _, _, rfl, over_far (t := t) (s := List.replicate m 0) rfl rfl st (zeros_std m) (by rw [List.length_replicate]; omega) (by omega) (by rw [List.length_replicate]; exact m7) c0 (by omega) (.inr (.inr ⟨rfl, q⟩))⟩
      have fin : ∀ (s13 : Slot), C__law_word K [tupI t, .int cut, tupI s] (fun y => fEq false y (.str "good") fun d => d = .bl true) (fun _ => False) := fun s13 =>
        ⟨_, _, _, rfl, over_ok (t := t) (s := s) rfl rfl st ss (by omega) (by omega) c0 (by omega) (rEqSame (ok_w (by decide +kernel)).ok rfl)⟩
      by_cases ck : (k : Int) = 7
      · refine it_t (by rw [decide_eq_true ck]; rfl) ?_
        repeat decreasing_trivial_pre_omega
        refine ⟨_, _, rfl, rfl, by simp, by omega, by omega, by decide, ?_⟩
        rw [zeros_D]
        repeat decreasing_trivial_pre_omega
        refine far _ _ (by omega) (by omega) ?_
        repeat decreasing_trivial_pre_omega
        refine rEqSame (ok_w (by decide +kernel)).ok ?_
        refine ⟨true, rfl, it_t rfl ?_⟩
        repeat decreasing_trivial_pre_omega
        exact fin .no
      · refine it_f (by rw [decide_eq_false ck]; rfl) ?_
        repeat decreasing_trivial_pre_omega
        refine ⟨_, _, rfl, rfl, by simp, by omega, by omega, by decide, ?_⟩
        rw [zeros_D]
        repeat decreasing_trivial_pre_omega
        refine far _ _ (by omega) (by omega) ?_
        repeat decreasing_trivial_pre_omega
        refine rEqSame (ok_w (by decide +kernel)).ok ?_
        refine ⟨true, rfl, it_t rfl ?_⟩
        repeat decreasing_trivial_pre_omega
        exact fin .no
    · repeat decreasing_trivial_pre_omega
      have okDue : okD (.lst (Due.map tupI)) := okL_T Due
      rw [List.length_map]
      by_cases c : 0 < (Due.length : Int)
      · refine it_t (decide_eq_true c) ?_
        repeat decreasing_trivial_pre_omega
        refine ⟨12, rfl, by decide, ?_⟩
        refine rng_from (n := 12) (fun env => ∃ s5 s7 s8 s10 s14, NoO s5 ∧ NoO s14 ∧ env = [.val (scrD ds), .val (.ref hd), .val (.int n), .val (.lst (rs.map ruleD)), .val (.lst (Due.map tupI)), s5, .no, s7, s8, .no, s10, .no, .no, .no, s14, .no]) (fun k env nx hk hh kk => ?_) (fun env hh => tl env hh) _ ⟨_, _, _, _, _, .inl rfl, .inl rfl, rfl⟩
        obtain ⟨s5, s7, s8, s10, s14, h5, h14, rfl⟩ := hh
        have pick : ∀ (Q : D → Prop), (∀ t ∈ Due, Q (tupI t)) → C__law_take hd ([.ref hd, .int ((Due.map tupI).length : Nat)] ++ []) (fun y => fIx (.lst (Due.map tupI)) y Q) (fun _ => False) := fun Q h => by
          rw [List.length_map]
          refine ⟨(Due.length : Int), rfl, c, by omega, fun r r0 r1 => ?_⟩
          obtain ⟨x, ex, mx⟩ := atI_ok (xs := Due.map tupI) r0 (by rw [List.length_map]; exact r1)
          obtain ⟨t, ht, rfl⟩ := List.mem_map.mp mx
          exact rIxL ex (h t ht)
        repeat decreasing_trivial_pre_omega
        refine pick _ fun t ht => ?_
        repeat decreasing_trivial_pre_omega
        refine pick _ fun s hs => ?_
        repeat decreasing_trivial_pre_omega
        obtain ⟨⟨lt, st⟩, kt⟩ := (hDue t).mp ht
        obtain ⟨⟨ls, ss⟩, ks⟩ := (hDue s).mp hs
        have net : t ≠ [] := fun e => by rw [e] at lt; simp at lt; omega
        refine ⟨t, .inr rfl, net, fun m tm => ?_⟩
        rw [topI_top st.pos tm]
        have tl0 := topI_lo t
        have tl1 := std_top st
        repeat decreasing_trivial_pre_omega
        refine ⟨topI t + 2, rfl, by omega, by omega, fun cut c0 c1 => ?_⟩
        repeat decreasing_trivial_pre_omega
        refine ⟨_, _, _, rfl, over_ok (t := t) (s := s) rfl rfl st ss (by omega) (by omega) c0 (by omega) fun u hu => ?_⟩
        have lu : u.length = n := by rw [hu.len, keys3_len (by omega), lt]
        have mu : u ∈ Due := (hDue u).mpr ⟨⟨lu, hu.std⟩, fun r hr => keeps_sorted (hrs r hr) lt ls hu (kt r hr) (ks r hr)⟩
        repeat decreasing_trivial_pre_omega
        refine ⟨u, n, rfl, by omega, ?_⟩
        rw [decide_eq_true (by omega)]
        repeat decreasing_trivial_pre_omega
        refine rInMem (ok_T u).ok okDue (List.mem_map_of_mem mu) ?_
        repeat decreasing_trivial_pre_omega
        refine ⟨t, cut, s, rfl, by omega, by omega, fun u' hu' => ?_⟩
        rw [← rks_one hu hu']
        refine rEqSame (ok_T u).ok ?_
        repeat decreasing_trivial_pre_omega
        refine ⟨t, rfl, st.pos, by omega, ?_⟩
        repeat decreasing_trivial_pre_omega
        refine ⟨s, rfl, ss.pos, by omega, ?_⟩
        repeat decreasing_trivial_pre_omega
        obtain ⟨stt, ttop⟩ := std_turned st
        refine ⟨_, _, _, rfl, over_ok (t := turnedI t) (s := turnedI s) rfl rfl stt (std_turned ss).1 (by rw [turned_len, turned_len]; omega) (by rw [turned_len]; omega) c0 (by rw [ttop]; omega) fun w hw => ?_⟩
        have lw : w.length = n := by rw [hw.len, keys3_len (by rw [turned_len, turned_len]; omega), turned_len, lt]
        repeat decreasing_trivial_pre_omega
        refine ⟨w, rfl, hw.pos, by omega, ?_⟩
        have mw : turnedI w ∈ Due := (hDue _).mpr ⟨⟨by rw [turned_len]; exact lw, (std_turned hw.std).1⟩, fun r hr => keeps_turned (hrs r hr) lt ls hw (kt r hr) (ks r hr)⟩
        repeat decreasing_trivial_pre_omega
        refine rInMem (ok_T _).ok okDue (List.mem_map_of_mem mw) ?_
        repeat decreasing_trivial_pre_omega
        exact kk _ ⟨_, _, _, _, _, .inr ⟨_, rfl⟩, .inr ⟨_, rfl⟩, rfl⟩
      · refine it_f (decide_eq_false c) ?_
        repeat decreasing_trivial_pre_omega
        exact ⟨0, rfl, by decide, tl _ ⟨_, _, _, _, _, .inl rfl, .inl rfl, rfl⟩⟩
end K65

namespace K65
open PySem PySem.Spec PyProof.Rows L2 Dl
theorem m40 {i j : Int} (h1 : 0 ≤ i) (h2 : i < 2 ^ 40) (h3 : 0 ≤ j) (h4 : j < 2 ^ 40) : CMulW i j := mulW (big_abs h1 (Int.lt_of_lt_of_le h2 (by decide))) (big_abs h3 (Int.lt_of_lt_of_le h4 (by decide)))
theorem d40 {i j : Int} (h : 0 < j) (h2 : j < 2 ^ 40) : CDivW i j := ⟨h, by
  have h1 : j.natAbs < 2 ^ 40 := by omega
  have h3 : j.natAbs ≠ 0 := by omega
  have := (Nat.log2_lt h3).mpr h1
  omega⟩
theorem kpI {env : DEnv} {i : Nat} {x : Int} : keepable env i (.int x) := .inr (by simp only [D.noLst])
theorem ct__law_mixed {K : PySem.W.Frag} {ds : List D} {Qd : D → Prop} {Ed : Exc → Prop} (h : C__law_mixed K ds Qd Ed) : d__law_mixed K (fun _ x => Ed x) ⟨fun _ => Qd .non, Qd, fun _ => False, fun _ => False⟩ (startD N__law_mixed ds) := by
  obtain ⟨a, b, rfl, a0, a1, b0, b1, q⟩ := h
  refine ⟨_, _, rfl, rfl, a, _, rfl, rfl, m40 a0 (by omega) (by decide) (by decide), _, _, rfl, rfl, b, _, rfl, rfl, m40 b0 (by omega) (by decide) (by decide), ⟨_, rfl, ⟨_, _, rfl, rfl, (show (0 : Int) < 2147483399 by decide), kpI, ?_⟩⟩⟩
  dsimp only
  generalize hx : (a * 39373 + b * 6151 + 50021) % 2147483399 = x
  have x0 : 0 ≤ x := by rw [← hx]; exact Int.emod_nonneg _ (by decide)
  have x1 : x < 2147483399 := by rw [← hx]; exact Int.emod_lt_of_pos _ (by decide)
  refine ⟨_, _, rfl, rfl, _, _, rfl, rfl, x, x, rfl, rfl, m40 x0 (by omega) x0 (by omega), _, _, rfl, rfl, b, _, rfl, rfl, m40 b0 (by omega) (by decide) (by decide), ?_⟩
  refine ⟨_, _, rfl, rfl, x, _, rfl, rfl, d40 (by decide) (by decide), ⟨_, rfl, ⟨_, _, rfl, rfl, (show (0 : Int) < 2147483629 by decide), kpI, ?_⟩⟩⟩
  dsimp only
  generalize hy : (x * x + b * 81071 + x / 137) % 2147483629 = y
  have y0 : 0 ≤ y := by rw [← hy]; exact Int.emod_nonneg _ (by decide)
  have y1 : y < 2147483629 := by rw [← hy]; exact Int.emod_lt_of_pos _ (by decide)
  refine ⟨_, _, rfl, rfl, y, _, rfl, rfl, m40 y0 (by omega) (by decide) (by decide), _, _, rfl, rfl, x, _, rfl, rfl, d40 (by decide) (by decide), ⟨_, rfl, ⟨_, _, rfl, rfl, (show (0 : Int) < 2147483587 by decide), ⟨_, rfl, ⟨_, _, rfl, rfl, d40 (by decide) (by decide), ?_⟩⟩⟩⟩⟩
  dsimp only
  generalize hz : (y * 62089 + x / 11) % 2147483587 = z
  have z0 : 0 ≤ z := by rw [← hz]; exact Int.emod_nonneg _ (by decide)
  have z1 : z < 2147483587 := by rw [← hz]; exact Int.emod_lt_of_pos _ (by decide)
  exact q (z / 64) (Int.ediv_nonneg z0 (by decide)) (by omega)
theorem ct__law_whole {K : PySem.W.Frag} {ds : List D} {Qd : D → Prop} {Ed : Exc → Prop} (h : C__law_whole K ds Qd Ed) : d__law_whole K (fun _ x => Ed x) ⟨fun _ => Qd .non, Qd, fun _ => False, fun _ => False⟩ (startD N__law_whole ds) := by
  obtain ⟨x, rfl, hx, q⟩ := h
  obtain ⟨t, ht⟩ := Option.isSome_iff_exists.mp hx
  refine ⟨_, _, rfl, rfl, _, _, rfl, t, ht, ⟨by simp [tyNames], ⟨_, rfl, ?_⟩⟩⟩
  cases x <;> simp only [D.tyn, Option.some.injEq, reduceCtorEq] at ht
  all_goals subst ht
  all_goals first
    | exact it_f rfl q
    | refine it_t rfl ⟨_, _, rfl, rfl, _, _, rfl, _, rfl, ⟨by simp [tyNames], ⟨_, rfl, q⟩⟩⟩
theorem ct_is_whole {K : PySem.W.Frag} {ds : List D} {Qd : D → Prop} {Ed : Exc → Prop} (h : C_is_whole K ds Qd Ed) : d_is_whole K (fun _ x => Ed x) ⟨fun _ => Qd .non, Qd, fun _ => False, fun _ => False⟩ (startD N_is_whole ds) := by
  obtain ⟨x, lo, hi, rfl, hx, h1, h2, q⟩ := h
  obtain ⟨t, ht⟩ := Option.isSome_iff_exists.mp hx
  simp only [d_is_whole, sSeq, sIf, dOr, dNot, dB, dCB, dCons, dNil, dVar, dC, sRet, sNext, dAndV, dOrV, dOp, startD, List.map, List.length, List.replicate, List.nil_append, List.cons_append, List.append_nil, List.getElem?_cons_zero, List.getElem?_cons_succ, Option.some.injEq, exists_eq_left', exists_eq_left, rdSlot, exists_and_left, bIsi, List.cons.injEq, and_true, and_assoc, D.bl.injEq, ht, tm_bool, tm_int, true_and, if_true]
  cases x <;> simp only [D.tyn, Option.some.injEq, reduceCtorEq] at ht
  all_goals subst ht
  all_goals simp [isiB]
  all_goals first
    | simpa [isWh] using q
    | skip
  rename_i n
  cases lo <;> cases hi <;> simp only [isOpt] at h1 h2 <;> simp [fIs, isN, xr, fGe, fLe, fI0] <;> simp [isWh] at q ⊢
  · exact q
  · exact q
  · rename_i l
    by_cases h : l ≤ n
    · rw [decide_eq_true h] at q; exact .inr ⟨h, q⟩
    · rw [decide_eq_false h] at q; exact .inl ⟨by omega, q⟩
  · rename_i l u
    by_cases h : l ≤ n
    · rw [decide_eq_true h, Bool.true_and] at q; exact .inr ⟨h, q⟩
    · rw [decide_eq_false h, Bool.false_and] at q; exact .inl ⟨by omega, q⟩
theorem ct__law_hand {K : PySem.W.Frag} {ds : List D} {Qd : D → Prop} {Ed : Exc → Prop} (h : C_hand K ds Qd Ed) : d__law_hand K (fun _ x => Ed x) ⟨fun _ => Qd .non, Qd, fun _ => False, fun _ => False⟩ (startD N__law_hand ds) := by
  obtain ⟨nm, ns, rfl, hl, q⟩ := h
  refine ⟨_, _, rfl, rfl, _, _, rfl, kpI, (show 0 ≤ sizeLine by decide), (show 2 < 4 by decide), .inl rfl, ⟨_, _, rfl, ?_⟩⟩
  refine forD_of (fun done rest env => ∃ (t : Int) (cs ms : List Int) (lc : Slot), env = [.val (.obj .scr nm (ns.map D.int)), .val (.int t), .own (cs.map D.int), lc] ∧ 0 ≤ t ∧ t < 2 ^ 32 ∧ (∀ c ∈ cs, 0 ≤ c) ∧ cs.length = done.length ∧ rest = ms.map D.int ∧ done.length + ms.length ≤ 63) ?_ ?_ _ [] _ ⟨_, [], ns, _, rfl, ?_, ?_, (fun c m => by cases m), rfl, rfl, by simpa using hl⟩
  · intro done env hh
    obtain ⟨t, cs, ms, lc, rfl, t0, t1, hc, hlen, hr, hb⟩ := hh
    refine ⟨_, _, rfl, rfl, ⟨_, _, rfl, rfl, (show 4 ≤ sizeLine by decide), ?_⟩⟩
    exact q cs t (by omega) hc t0 t1
  · intro done x rest env hh k
    obtain ⟨t, cs, ms, lc, rfl, t0, t1, hc, hlen, hr, hb⟩ := hh
    cases ms with
    | nil => cases hr
    | cons m ms =>
      obtain ⟨rfl, rfl⟩ := List.cons.inj hr
      refine ⟨_, _, rfl, rfl, t, _, rfl, rfl, m40 t0 (by omega) (by decide) (by decide), _, _, rfl, rfl, ⟨m, rfl, ⟨_, rfl, ⟨_, _, rfl, rfl, (show (0 : Int) < 2147483563 by decide), kpI, ?_⟩⟩⟩⟩
      refine ⟨_, rfl, _, _, rfl, rfl, m, rfl, m, rfl, by simp only [D.noLst], ?_, ?_⟩
      · rw [List.length_map, hlen]
        have : (100 : Nat) ≤ sizeLine := by decide
        omega
      · dsimp only
        refine k _ ⟨(t * 2003 + m) % 2147483563, cs ++ [if m < 0 then -m else m], ms, .val (.int m), ?_, Int.emod_nonneg _ (by decide), Int.lt_of_lt_of_le (Int.emod_lt_of_pos _ (by decide)) (by decide), fun c hcm => ?_, ?_, rfl, ?_⟩
        · rw [List.map_append]; rfl
        · rcases List.mem_append.mp hcm with z | z
          · exact hc c z
          · rw [List.mem_singleton.mp z]; split <;> omega
        · rw [List.length_append, List.length_append, hlen]; rfl
        · rw [List.length_append]
          rw [List.length_cons] at hb
          simp only [List.length_cons, List.length_nil]
          omega
  · show (0 : Int) ≤ ((ns.map D.int).length : Int) + 43
    omega
  · show ((ns.map D.int).length : Int) + 43 < 2 ^ 32
    rw [List.length_map]
    omega

end K65

namespace K65
open PySem PySem.Spec PyProof.Rows L2 Dl
def xsB (K : PySem.W.Frag) : Bool := decide (PySem.W.exmOne K (.ref (He.ga K "BadStanding")) (.ref (He.ga K "BadStanding")) = some true) && (decide (PySem.W.exmOne K (.ref (He.ga K "BadCut")) (.ref (He.ga K "BadStanding")) = some false) && (decide (PySem.W.exmOne K (.ref (He.ga K "BadCut")) (.ref (He.ga K "BadCut")) = some true) && (decide (PySem.W.exmOne K (.ref (He.ga K "OtherPlaces")) (.ref (He.ga K "BadStanding")) = some false) && (decide (PySem.W.exmOne K (.ref (He.ga K "OtherPlaces")) (.ref (He.ga K "BadCut")) = some false) && (decide (PySem.W.exmOne K (.ref (He.ga K "OtherPlaces")) (.ref (He.ga K "OtherPlaces")) = some true) && (xfB K (He.ga K "BadStanding") && decide (PySem.W.findIn K (.ref (He.ga K "BadStanding")) "index" = some none)))))))
theorem xsB_ok {K : PySem.W.Frag} (h : xsB K = true) : Xs K := by
  obtain ⟨h1, h⟩ := He.ba h
  obtain ⟨h2, h⟩ := He.ba h
  obtain ⟨h3, h⟩ := He.ba h
  obtain ⟨h4, h⟩ := He.ba h
  obtain ⟨h5, h⟩ := He.ba h
  obtain ⟨h6, h⟩ := He.ba h
  obtain ⟨h7, h8⟩ := He.ba h
  exact ⟨of_decide_eq_true h1, of_decide_eq_true h2, of_decide_eq_true h3, of_decide_eq_true h4, of_decide_eq_true h5, of_decide_eq_true h6, xfB_ok h7, of_decide_eq_true h8⟩
end K65

namespace K65
open PySem PySem.Spec PyProof.Rows L2 Dl Ns Zs Zz Rk
abbrev s__law_take : Stmt := top 19
abbrev N__law_take : List Str := ["_law_hand_here", "_law_many", "_law_cell", "_law_rest"]
theorem sc__law_take : FnScope N__law_take ["_law_hand_here", "_law_many"] (defScope s__law_take) := ⟨rfl, rfl, rfl, by decide +kernel, rfl, by decide +kernel, by decide +kernel⟩
theorem fn__law_take {P : Program} {w : World} {K : PySem.W.Frag} {mg : Str → Option Value} {base : Heap} {fa hd c : Addr} {fd : FuncData} (hne : hd ≠ c) (F : FunD K "_law_take" "_law_take" (defArgs s__law_take) (defBody s__law_take) (defScope s__law_take) [] [] fa fd) (T : Tf K mg)
    (c__law_mixed : Cl P w K mg base (handI hd c) 2 "_law_mixed" 2 (C__law_mixed K) []) : FnOk P w K mg base (L2.CX P w) 3 fa fd ["_law_hand_here", "_law_many"] (spOf K (handI hd c) 2 (C__law_take hd)) := by
  obtain ⟨fm, fdm, psm, dsm, dvsm, F__law_mixed, g__law_mixed, k__law_mixed, b__law_mixed, vm, dm⟩ := c__law_mixed
  have e1 : dvsm = [] := (dm (fun _ => none)).nil
  subst e1
  cases vm
  refine F.ok sc__law_take (fun vs H Q E ⟨ds, Qd, Ed, hl, dn, _⟩ => by rw [dn.len, hl]; rfl) (fun cdv A outer s H vs Q E hr h => ?_)
  have nd := sc__law_take.nd
  refine ⟨_, pss_cons (ps_if (PW.pt (pw_and (pt_cmpR op_eq (pe_ix ix_list (pv 0) (pe_int) (by intro _ _; rfl)) (pe_int) (nomark _)) (pw_and1 (pt_cmpR op_lt (pe_ix ix_list (pv 0) (pe_int) (by intro _ _; rfl)) (pe_callB call_len rfl T.n_len PySem.boot_len (pa_cons (pe_ix ix_list (pv 0) (pe_int) (by intro _ _; rfl)) (pa_nil))) (nomark _))))) (pss_cons (ps_set (i := 2) nd rfl (Or.inl rfl) (pe_ix ix_list (pe_ix ix_list (pv 0) (pe_int) (by intro _ _; rfl)) (pe_ix ix_list (pv 0) (pe_int) (by intro _ _; rfl)) (by intro _ _; rfl))) (pss_cons (ps_asg (pe_op op_add (pe_ix ix_list (pv 0) (pe_int) (by intro _ _; rfl)) (pe_int)) (pg_sub (pv 0) (pe_int) set_list)) (pss_cons (ps_if (pt_cmpR op_lt (pv 2) (pe_op op_pow (pe_int) (pe_int)) (nomark _)) (pss_one (ps_ret (pe_op op_mod (pe_callTy call_int1 rfl T.n_int boot_int (pa_cons (pe_call F__law_mixed (hr.mono (by decide)) rfl g__law_mixed k__law_mixed b__law_mixed .nil passL (pa_cons (pe_op op_mod (pe_callTy call_int1 rfl T.n_int boot_int (pa_cons (pv 2) (pa_nil))) (pe_int)) (pa_cons (pe_ix ix_list (pv 0) (pe_int) (by intro _ _; rfl)) (pa_nil)))) (pa_nil))) (pv 1)))) (pss_nil)) (pss_one (ps_asg (pv 2) (pg_sub (pv 0) (pe_int) set_list)))))) (pss_nil)) (pss_cons (ps_if (pt_cmpR op_gt (pe_ix ix_list (pv 0) (pe_int) (by intro _ _; rfl)) (pe_int) (nomark _)) (pss_cons (ps_set (i := 3) nd rfl (Or.inl rfl) (pe_ix ix_list (pv 0) (pe_int) (by intro _ _; rfl))) (pss_cons (ps_asg (pe_op op_fdivW (pe_callTy call_int1 rfl T.n_int boot_int (pa_cons (pv 3) (pa_nil))) (pv 1)) (pg_sub (pv 0) (pe_int) set_list)) (pss_one (ps_ret (pe_op op_mod (pe_callTy call_int1 rfl T.n_int boot_int (pa_cons (pv 3) (pa_nil))) (pv 1)))))) (pss_nil)) (pss_cons (ps_asg (pe_op op_mod (pe_callTy call_int1 rfl T.n_int boot_int (pa_cons (pe_op op_add (pe_ix ix_list (pv 0) (pe_int) (by intro _ _; rfl)) (pe_int)) (pa_nil))) (pe_int)) (pg_sub (pv 0) (pe_int) set_list)) (pss_one (ps_ret (pe_op op_mod (pe_callTy call_int1 rfl T.n_int boot_int (pa_cons (pe_call F__law_mixed (hr.mono (by decide)) rfl g__law_mixed k__law_mixed b__law_mixed .nil passL (pa_cons (pe_ix ix_list (pv 0) (pe_int) (by intro _ _; rfl)) (pa_cons (pe_ix ix_list (pv 0) (pe_int) (by intro _ _; rfl)) (pa_nil)))) (pa_nil))) (pv 1)))))), ?_⟩
  obtain ⟨ds, Qd, Ed, hl, dn, ok, ⟨m, rfl, m0, m1, q⟩, kq, ke⟩ := h
  obtain ⟨v1, r1, rfl, d1, dn⟩ := dn.cons
  obtain ⟨v2, rfl, d2⟩ := dn.one1
  simp only [Den] at d1 d2
  subst d1 d2
  obtain ⟨cs, at_, held, tot, Z⟩ := ok
  have hm : CDivW held m := ⟨m0, by
    have h1 : m.natAbs < 2 ^ 200 := by omega
    have h2 : m.natAbs ≠ 0 := by omega
    have := (Nat.log2_lt h2).mpr h1
    omega⟩
  have fin : ∀ (x : Int) (H' : Hp), Kp (handI hd c).own H H' → (handI hd c).ok H' → Q (.int (x % m)) H' := fun x H' e o =>
    kq (.int (x % m)) (.int (x % m)) H' ⟨e, o⟩ (by simp only [Den]) (q _ (Int.emod_nonneg _ (by omega)) (Int.emod_lt_of_pos _ m0))
  refine seq_of (P := fun σ' H' => ∃ a b, σ' = [some (.ref hd), some (.int m), a, b] ∧ Kp (handI hd c).own H H' ∧ ∃ cs at_ held tot, HandAt hd c cs at_ held tot H') ?_ ?_
  · intro σ' H' hh
    obtain ⟨a, b, rfl, kp, cs, at_, held, tot, Z⟩ := hh
    refine seq_of (P := fun σ' H' => ∃ a b, σ' = [some (.ref hd), some (.int m), a, b] ∧ Kp (handI hd c).own H H' ∧ ∃ cs at_ held tot, HandAt hd c cs at_ held tot H') ?_ ?_
    · intro σ' H' hh
      obtain ⟨a, b, rfl, kp, cs, at_, held, tot, Z⟩ := hh
      refine v_ix rfl Z.h rfl ⟨tot, 1, rfl, rfl, Or.inl ⟨tot + 1, rfl, ⟨tot + 1, _, rfl, rfl, (show (0 : Int) < 2147483549 by decide), ?_⟩⟩⟩
      refine v_set rfl Z.h rfl ?_
      have t0 : 0 ≤ (tot + 1) % 2147483549 := Int.emod_nonneg _ (by decide)
      have t1 : (tot + 1) % 2147483549 < 2147483549 := Int.emod_lt_of_pos _ (by decide)
      have Z' := Z.set hne Z.a0 Z.a1 Z.h0 t0 (by omega)
      refine v_ix rfl Z'.h rfl (v_ix rfl Z'.h rfl ?_)
      refine ⟨[.int _, .int at_], fun d => ∃ r : Int, d = .int r ∧ 0 ≤ r, fun _ => False, rfl, DenA.ints (ns := [_, at_]), ⟨_, _, _, _, Z'⟩, ⟨_, _, rfl, t0, by omega, Z.a0, by have := Z.a1; omega, fun r r0 _ => ⟨r, rfl, r0⟩⟩, fun v d H2 e2 dn ⟨r, er, r0⟩ => ?_, fun _ _ _ _ _ z => z.elim⟩
      subst er
      simp only [Den] at dn
      subst dn
      refine Or.inl ⟨r, rfl, ⟨_, rfl, ⟨r, m, rfl, rfl, m0, ?_⟩⟩⟩
      exact fin r H2 ((kp.trans kp_mut).trans e2.1) e2.2
    · intro nx
      by_cases hh : 0 < held
      · refine v_ix rfl Z.h rfl ⟨held, 0, rfl, rfl, _, rfl, ?_⟩
        refine it_t (decide_eq_true hh) ?_
        refine v_ix rfl Z.h rfl ?_
        refine ⟨_, rfl, Or.inl ⟨held, rfl, ⟨_, rfl, ⟨held, m, rfl, rfl, ⟨hm.1, hm.2⟩, ?_⟩⟩⟩⟩
        refine v_set rfl Z.h rfl ?_
        have Z' := Z.set hne Z.a0 Z.a1 (h' := held / m) (Int.ediv_nonneg Z.h0 (Int.le_of_lt m0)) Z.t0 Z.t1
        refine ⟨_, rfl, Or.inl ⟨held, rfl, ⟨_, rfl, ⟨held, m, rfl, rfl, m0, ?_⟩⟩⟩⟩
        exact fin held _ (kp.trans kp_mut) ⟨_, _, _, _, Z'⟩
      · refine v_ix rfl Z.h rfl ⟨held, 0, rfl, rfl, _, rfl, ?_⟩
        refine it_f (decide_eq_false hh) ?_
        exact nx _ _ ⟨a, b, rfl, kp, _, _, _, _, Z⟩
  · intro nx
    refine v_ix rfl Z.h rfl ⟨rfl, _, rfl, ?_⟩
    by_cases hh : held = 0
    · subst hh
      refine it_t (decide_eq_true rfl) ?_
      refine v_ix rfl Z.h rfl (v_ix rfl Z.h rfl ?_)
      refine ⟨_, (cs.map V.int).length, rfl, Or.inl ⟨_, SqL.of Z.c, rfl⟩, ⟨at_, _, rfl, rfl, _, rfl, ?_⟩⟩
      by_cases hl : at_ < ((cs.map V.int).length : Int)
      · refine it_t (decide_eq_true hl) ?_
        rw [List.length_map] at hl
        obtain ⟨x, ex, mx⟩ := take_cell Z.a0 hl
        have x0 := Z.pos x mx
        refine v_ix rfl Z.h rfl ?_
        refine v_ix rfl Z.h rfl ⟨c, _, at_, _, rfl, rfl, SqL.of Z.c, ex, ?_⟩
        refine v_ix rfl Z.h rfl ⟨at_, 1, rfl, rfl, ?_⟩
        refine v_set rfl Z.h rfl ?_
        have Z' := Z.set hne (a' := at_ + 1) (by have := Z.a0; omega) (by have := Z.len; omega) Z.h0 Z.t0 Z.t1
        refine ⟨_, rfl, ⟨10, 18, rfl, rfl, (by unfold CPow; decide), ⟨x, _, rfl, rfl, _, rfl, ?_⟩⟩⟩
        by_cases hx : x < (10 : Int) ^ (18 : Int).toNat
        · refine it_t (decide_eq_true hx) ?_
          refine ⟨_, rfl, Or.inl ⟨x, rfl, ⟨x, _, rfl, rfl, (show (0 : Int) < 2147483399 by decide), ?_⟩⟩⟩
          have c0 : 0 ≤ x % 2147483399 := Int.emod_nonneg _ (by decide)
          have c1 : x % 2147483399 < 2147483399 := Int.emod_lt_of_pos _ (by decide)
          refine v_ix rfl Z'.h rfl ?_
          refine ⟨[.int (x % 2147483399), .int (at_ + 1)], fun d => ∃ r : Int, d = .int r ∧ 0 ≤ r, fun _ => False, rfl, DenA.ints (ns := [x % 2147483399, at_ + 1]), ⟨_, _, _, _, Z'⟩, ⟨_, _, rfl, c0, by omega, Z'.a0, by have := Z'.a1; omega, fun r r0 _ => ⟨r, rfl, r0⟩⟩, fun v d H2 e2 dn ⟨r, er, r0⟩ => ?_, fun _ _ _ _ _ z => z.elim⟩
          subst er
          simp only [Den] at dn
          subst dn
          refine Or.inl ⟨r, rfl, ⟨_, rfl, ⟨r, m, rfl, rfl, m0, ?_⟩⟩⟩
          exact fin r H2 (kp_mut.trans e2.1) e2.2
        · refine it_f (decide_eq_false hx) ?_
          refine ⟨_, rfl, v_set rfl Z'.h rfl ?_⟩
          have Z2 := Z'.set hne Z'.a0 Z'.a1 (h' := x) x0 Z.t0 Z.t1
          refine nx _ _ ⟨_, _, rfl, kp_mut.trans kp_mut, _, _, _, _, Z2⟩
      · refine it_f (decide_eq_false hl) ?_
        exact nx _ _ ⟨_, _, rfl, Kp.refl, _, _, _, _, Z⟩
    · refine it_f (decide_eq_false fun z => hh (by injection z)) ?_
      refine it_f rfl ?_
      exact nx _ _ ⟨_, _, rfl, Kp.refl, _, _, _, _, Z⟩

end K65

namespace K65
open PySem PySem.Spec PyProof.Rows L2 Dl Ns Zs Zz Rk
theorem fn_is_whole {P : Program} {w : World} {K : PySem.W.Frag} {mg : Str → Option Value} {base : Heap} {I : HI} {fa : Addr} {fd : FuncData} (F : FunD K "is_whole" "is_whole" (defArgs s_is_whole) (defBody s_is_whole) (defScope s_is_whole) [.non, .non] [] fa fd) (T : Tf K mg)  :
    FnOk P w K mg base (L2.CX P w) 2 fa fd ["thing", "low", "high"] (spOf K I 3 (C_is_whole K)) :=
  fn_D F sc_is_whole (fun cdv A outer s H E Ed hr tk => pd_is_whole T  hr tk) fun ds Qd Ed h _ => ct_is_whole h
theorem mk_c_is_whole_2 {P : Program} {w : World} {K : PySem.W.Frag} {mg : Str → Option Value} {base : Heap} {I : HI} {fa : Addr} {fd : FuncData} (F : FunD K "is_whole" "is_whole" (defArgs s_is_whole) (defBody s_is_whole) (defScope s_is_whole) [.non, .non] [] fa fd) (T : Tf K mg) (gm : mg "is_whole" = some (.ref fa))  : Cl P w K mg base I 2 "is_whole" 3 (C_is_whole K) [.non] := by
  obtain ⟨ds, V, B⟩ := F.binds1 (ps := ["thing", "low", "high"]) 2 1 (by simp) rfl fun T2 kV doc pm an cdv ct us its l1 l2 => match us, its, l1, l2 with | [_, _], [_, _], _, _ => ⟨_, rfl, rfl⟩
  exact ⟨fa, fd, _, _, _, fn_is_whole F T , gm, F.kp, B, V, fun H => by simp [DenA, Den]⟩
theorem mk_c_is_whole {P : Program} {w : World} {K : PySem.W.Frag} {mg : Str → Option Value} {base : Heap} {I : HI} {fa : Addr} {fd : FuncData} (F : FunD K "is_whole" "is_whole" (defArgs s_is_whole) (defBody s_is_whole) (defScope s_is_whole) [.non, .non] [] fa fd) (T : Tf K mg) (gm : mg "is_whole" = some (.ref fa))  : Cl P w K mg base I 2 "is_whole" 3 (C_is_whole K) [] := by
  obtain ⟨ds, V, B⟩ := F.binds1 (ps := ["thing", "low", "high"]) 3 2 (by simp) rfl fun T2 kV doc pm an cdv ct us its l1 l2 => match us, its, l1, l2 with | [_, _, _], [_, _], _, _ => ⟨_, rfl, rfl⟩
  exact ⟨fa, fd, _, _, _, fn_is_whole F T , gm, F.kp, B, V, fun H => by simp [DenA, Den]⟩
theorem fn_check_standing {P : Program} {w : World} {K : PySem.W.Frag} {mg : Str → Option Value} {base : Heap} {I : HI} {fa : Addr} {fd : FuncData} (F : FunD K "check_standing" "check_standing" (defArgs s_check_standing) (defBody s_check_standing) (defScope s_check_standing) [.non] [] fa fd) (T : Tf K mg) (c_is_whole_2 : Cl P w K mg base I 2 "is_whole" 3 (C_is_whole K) [.non]) (er_BadStanding : Er P w K mg base "BadStanding" "index") :
    FnOk P w K mg base (L2.CX P w) 3 fa fd ["ranks", "places"] (spOf K I 2 (C_check_standing K)) :=
  fn_D F sc_check_standing (fun cdv A outer s H E Ed hr tk => pd_check_standing T c_is_whole_2 er_BadStanding hr tk) fun ds Qd Ed h _ => ct_check_standing h
theorem mk_c_check_standing_1 {P : Program} {w : World} {K : PySem.W.Frag} {mg : Str → Option Value} {base : Heap} {I : HI} {fa : Addr} {fd : FuncData} (F : FunD K "check_standing" "check_standing" (defArgs s_check_standing) (defBody s_check_standing) (defScope s_check_standing) [.non] [] fa fd) (T : Tf K mg) (gm : mg "check_standing" = some (.ref fa)) (c_is_whole_2 : Cl P w K mg base I 2 "is_whole" 3 (C_is_whole K) [.non]) (er_BadStanding : Er P w K mg base "BadStanding" "index") : Cl P w K mg base I 3 "check_standing" 2 (C_check_standing K) [.non] := by
  obtain ⟨ds, V, B⟩ := F.binds1 (ps := ["ranks", "places"]) 1 0 (by simp) rfl fun T2 kV doc pm an cdv ct us its l1 l2 => match us, its, l1, l2 with | [_], [_], _, _ => ⟨_, rfl, rfl⟩
  exact ⟨fa, fd, _, _, _, fn_check_standing F T c_is_whole_2 er_BadStanding, gm, F.kp, B, V, fun H => by simp [DenA, Den]⟩
theorem fn_standing_of {P : Program} {w : World} {K : PySem.W.Frag} {mg : Str → Option Value} {base : Heap} {I : HI} {fa : Addr} {fd : FuncData} (F : FunD K "standing_of" "standing_of" (defArgs s_standing_of) (defBody s_standing_of) (defScope s_standing_of) [] [] fa fd) (T : Tf K mg)  :
    FnOk P w K mg base (L2.CX P w) 2 fa fd ["keys"] (spOf K I 1 (C_standing_of K)) :=
  fn_D F sc_standing_of (fun cdv A outer s H E Ed hr tk => pd_standing_of T  hr tk) fun ds Qd Ed h _ => ct_standing_of h
theorem mk_c_standing_of {P : Program} {w : World} {K : PySem.W.Frag} {mg : Str → Option Value} {base : Heap} {I : HI} {fa : Addr} {fd : FuncData} (F : FunD K "standing_of" "standing_of" (defArgs s_standing_of) (defBody s_standing_of) (defScope s_standing_of) [] [] fa fd) (T : Tf K mg) (gm : mg "standing_of" = some (.ref fa))  : Cl P w K mg base I 2 "standing_of" 1 (C_standing_of K) [] := by
  have B : L2.Binds K fd ["keys"] [] := F.bindsN fun _ _ _ _ _ _ us hl => match us, hl with | [_], _ => rfl
  exact ⟨fa, fd, _, _, [], fn_standing_of F T , gm, F.kp, B, .nil, fun H => by simp only [DenA]⟩
theorem fn_ranks_number {P : Program} {w : World} {K : PySem.W.Frag} {mg : Str → Option Value} {base : Heap} {I : HI} {fa : Addr} {fd : FuncData} (F : FunD K "ranks_number" "ranks_number" (defArgs s_ranks_number) (defBody s_ranks_number) (defScope s_ranks_number) [] [] fa fd) (T : Tf K mg) (c_check_standing_1 : Cl P w K mg base I 3 "check_standing" 2 (C_check_standing K) [.non]) :
    FnOk P w K mg base (L2.CX P w) 4 fa fd ["standing"] (spOf K I 1 (C_ranks_number K)) :=
  fn_D F sc_ranks_number (fun cdv A outer s H E Ed hr tk => pd_ranks_number T c_check_standing_1 hr tk) fun ds Qd Ed h _ => ct_ranks_number h
theorem mk_c_ranks_number {P : Program} {w : World} {K : PySem.W.Frag} {mg : Str → Option Value} {base : Heap} {I : HI} {fa : Addr} {fd : FuncData} (F : FunD K "ranks_number" "ranks_number" (defArgs s_ranks_number) (defBody s_ranks_number) (defScope s_ranks_number) [] [] fa fd) (T : Tf K mg) (gm : mg "ranks_number" = some (.ref fa)) (c_check_standing_1 : Cl P w K mg base I 3 "check_standing" 2 (C_check_standing K) [.non]) : Cl P w K mg base I 4 "ranks_number" 1 (C_ranks_number K) [] := by
  have B : L2.Binds K fd ["standing"] [] := F.bindsN fun _ _ _ _ _ _ us hl => match us, hl with | [_], _ => rfl
  exact ⟨fa, fd, _, _, [], fn_ranks_number F T c_check_standing_1, gm, F.kp, B, .nil, fun H => by simp only [DenA]⟩
theorem fn_check_over {P : Program} {w : World} {K : PySem.W.Frag} {mg : Str → Option Value} {base : Heap} {I : HI} {fa : Addr} {fd : FuncData} (F : FunD K "check_over" "check_over" (defArgs s_check_over) (defBody s_check_over) (defScope s_check_over) [] [] fa fd) (T : Tf K mg) (c_check_standing_1 : Cl P w K mg base I 3 "check_standing" 2 (C_check_standing K) [.non]) (c_is_whole : Cl P w K mg base I 2 "is_whole" 3 (C_is_whole K) []) (c_ranks_number : Cl P w K mg base I 4 "ranks_number" 1 (C_ranks_number K) []) (eR_BadCut : Zs.ErR K mg "BadCut") (eR_OtherPlaces : Zs.ErR K mg "OtherPlaces") :
    FnOk P w K mg base (L2.CX P w) 5 fa fd ["one", "cut", "other"] (spOf K I 3 (C_check_over K)) :=
  fn_D F sc_check_over (fun cdv A outer s H E Ed hr tk => pd_check_over T c_check_standing_1 c_is_whole c_ranks_number eR_BadCut eR_OtherPlaces hr tk) fun ds Qd Ed h _ => ct_check_over h
theorem mk_c_check_over {P : Program} {w : World} {K : PySem.W.Frag} {mg : Str → Option Value} {base : Heap} {I : HI} {fa : Addr} {fd : FuncData} (F : FunD K "check_over" "check_over" (defArgs s_check_over) (defBody s_check_over) (defScope s_check_over) [] [] fa fd) (T : Tf K mg) (gm : mg "check_over" = some (.ref fa)) (c_check_standing_1 : Cl P w K mg base I 3 "check_standing" 2 (C_check_standing K) [.non]) (c_is_whole : Cl P w K mg base I 2 "is_whole" 3 (C_is_whole K) []) (c_ranks_number : Cl P w K mg base I 4 "ranks_number" 1 (C_ranks_number K) []) (eR_BadCut : Zs.ErR K mg "BadCut") (eR_OtherPlaces : Zs.ErR K mg "OtherPlaces") : Cl P w K mg base I 5 "check_over" 3 (C_check_over K) [] := by
  have B : L2.Binds K fd ["one", "cut", "other"] [] := F.bindsN fun _ _ _ _ _ _ us hl => match us, hl with | [_, _, _], _ => rfl
  exact ⟨fa, fd, _, _, [], fn_check_over F T c_check_standing_1 c_is_whole c_ranks_number eR_BadCut eR_OtherPlaces, gm, F.kp, B, .nil, fun H => by simp only [DenA]⟩
theorem fn__sorting_of {P : Program} {w : World} {K : PySem.W.Frag} {mg : Str → Option Value} {base : Heap} {I : HI} {fa : Addr} {fd : FuncData} (F : FunD K "_sorting_of" "_sorting_of" (defArgs s__sorting_of) (defBody s__sorting_of) (defScope s__sorting_of) [] [] fa fd) (T : Tf K mg) (c_standing_of : Cl P w K mg base I 2 "standing_of" 1 (C_standing_of K) []) :
    FnOk P w K mg base (L2.CX P w) 3 fa fd ["one", "cut", "other"] (spOf K I 3 (C__sorting_of K)) :=
  fn_D F sc__sorting_of (fun cdv A outer s H E Ed hr tk => pd__sorting_of T c_standing_of hr tk) fun ds Qd Ed h _ => ct__sorting_of h
theorem mk_c__sorting_of {P : Program} {w : World} {K : PySem.W.Frag} {mg : Str → Option Value} {base : Heap} {I : HI} {fa : Addr} {fd : FuncData} (F : FunD K "_sorting_of" "_sorting_of" (defArgs s__sorting_of) (defBody s__sorting_of) (defScope s__sorting_of) [] [] fa fd) (T : Tf K mg) (gm : mg "_sorting_of" = some (.ref fa)) (c_standing_of : Cl P w K mg base I 2 "standing_of" 1 (C_standing_of K) []) : Cl P w K mg base I 3 "_sorting_of" 3 (C__sorting_of K) [] := by
  have B : L2.Binds K fd ["one", "cut", "other"] [] := F.bindsN fun _ _ _ _ _ _ us hl => match us, hl with | [_, _, _], _ => rfl
  exact ⟨fa, fd, _, _, [], fn__sorting_of F T c_standing_of, gm, F.kp, B, .nil, fun H => by simp only [DenA]⟩
theorem fn_sorted_over {P : Program} {w : World} {K : PySem.W.Frag} {mg : Str → Option Value} {base : Heap} {I : HI} {fa : Addr} {fd : FuncData} (F : FunD K "sorted_over" "sorted_over" (defArgs s_sorted_over) (defBody s_sorted_over) (defScope s_sorted_over) [] [] fa fd) (T : Tf K mg) (c__sorting_of : Cl P w K mg base I 3 "_sorting_of" 3 (C__sorting_of K) []) (c_check_over : Cl P w K mg base I 5 "check_over" 3 (C_check_over K) []) :
    FnOk P w K mg base (L2.CX P w) 6 fa fd ["one", "cut", "other"] (spOf K I 3 (C_sorted_over K)) :=
  fn_D F sc_sorted_over (fun cdv A outer s H E Ed hr tk => pd_sorted_over T c__sorting_of c_check_over hr tk) fun ds Qd Ed h _ => ct_sorted_over h
theorem mk_c_sorted_over {P : Program} {w : World} {K : PySem.W.Frag} {mg : Str → Option Value} {base : Heap} {I : HI} {fa : Addr} {fd : FuncData} (F : FunD K "sorted_over" "sorted_over" (defArgs s_sorted_over) (defBody s_sorted_over) (defScope s_sorted_over) [] [] fa fd) (T : Tf K mg) (gm : mg "sorted_over" = some (.ref fa)) (c__sorting_of : Cl P w K mg base I 3 "_sorting_of" 3 (C__sorting_of K) []) (c_check_over : Cl P w K mg base I 5 "check_over" 3 (C_check_over K) []) : Cl P w K mg base I 6 "sorted_over" 3 (C_sorted_over K) [] := by
  have B : L2.Binds K fd ["one", "cut", "other"] [] := F.bindsN fun _ _ _ _ _ _ us hl => match us, hl with | [_, _, _], _ => rfl
  exact ⟨fa, fd, _, _, [], fn_sorted_over F T c__sorting_of c_check_over, gm, F.kp, B, .nil, fun H => by simp only [DenA]⟩
theorem fn__law_hand {P : Program} {w : World} {K : PySem.W.Frag} {mg : Str → Option Value} {base : Heap} {I : HI} {fa : Addr} {fd : FuncData} (F : FunD K "_law_hand" "_law_hand" (defArgs s__law_hand) (defBody s__law_hand) (defScope s__law_hand) [] [] fa fd) (T : Tf K mg)  :
    FnOk P w K mg base (L2.CX P w) 2 fa fd ["_law_script"] (spOf K I 1 (C_hand K)) :=
  fn_D F sc__law_hand (fun cdv A outer s H E Ed hr tk => pd__law_hand T  hr tk) fun ds Qd Ed h _ => ct__law_hand h
theorem fn__law_mixed {P : Program} {w : World} {K : PySem.W.Frag} {mg : Str → Option Value} {base : Heap} {I : HI} {fa : Addr} {fd : FuncData} (F : FunD K "_law_mixed" "_law_mixed" (defArgs s__law_mixed) (defBody s__law_mixed) (defScope s__law_mixed) [] [] fa fd) (T : Tf K mg)  :
    FnOk P w K mg base (L2.CX P w) 2 fa fd ["_law_number", "_law_turn"] (spOf K I 2 (C__law_mixed K)) :=
  fn_D F sc__law_mixed (fun cdv A outer s H E Ed hr tk => pd__law_mixed T  hr tk) fun ds Qd Ed h _ => ct__law_mixed h
theorem mk_c__law_mixed {P : Program} {w : World} {K : PySem.W.Frag} {mg : Str → Option Value} {base : Heap} {I : HI} {fa : Addr} {fd : FuncData} (F : FunD K "_law_mixed" "_law_mixed" (defArgs s__law_mixed) (defBody s__law_mixed) (defScope s__law_mixed) [] [] fa fd) (T : Tf K mg) (gm : mg "_law_mixed" = some (.ref fa))  : Cl P w K mg base I 2 "_law_mixed" 2 (C__law_mixed K) [] := by
  have B : L2.Binds K fd ["_law_number", "_law_turn"] [] := F.bindsN fun _ _ _ _ _ _ us hl => match us, hl with | [_, _], _ => rfl
  exact ⟨fa, fd, _, _, [], fn__law_mixed F T , gm, F.kp, B, .nil, fun H => by simp only [DenA]⟩
theorem fn__law_whole {P : Program} {w : World} {K : PySem.W.Frag} {mg : Str → Option Value} {base : Heap} {I : HI} {fa : Addr} {fd : FuncData} (F : FunD K "_law_whole" "_law_whole" (defArgs s__law_whole) (defBody s__law_whole) (defScope s__law_whole) [] [] fa fd) (T : Tf K mg)  :
    FnOk P w K mg base (L2.CX P w) 2 fa fd ["_law_thing"] (spOf K I 1 (C__law_whole K)) :=
  fn_D F sc__law_whole (fun cdv A outer s H E Ed hr tk => pd__law_whole T  hr tk) fun ds Qd Ed h _ => ct__law_whole h
theorem mk_c__law_whole {P : Program} {w : World} {K : PySem.W.Frag} {mg : Str → Option Value} {base : Heap} {I : HI} {fa : Addr} {fd : FuncData} (F : FunD K "_law_whole" "_law_whole" (defArgs s__law_whole) (defBody s__law_whole) (defScope s__law_whole) [] [] fa fd) (T : Tf K mg) (gm : mg "_law_whole" = some (.ref fa))  : Cl P w K mg base I 2 "_law_whole" 1 (C__law_whole K) [] := by
  have B : L2.Binds K fd ["_law_thing"] [] := F.bindsN fun _ _ _ _ _ _ us hl => match us, hl with | [_], _ => rfl
  exact ⟨fa, fd, _, _, [], fn__law_whole F T , gm, F.kp, B, .nil, fun H => by simp only [DenA]⟩
theorem fn__law_ranks {P : Program} {w : World} {K : PySem.W.Frag} {mg : Str → Option Value} {base : Heap} {I : HI} {fa : Addr} {fd : FuncData} (F : FunD K "_law_ranks" "_law_ranks" (defArgs s__law_ranks) (defBody s__law_ranks) (defScope s__law_ranks) [] [] fa fd) (T : Tf K mg)  :
    FnOk P w K mg base (L2.CX P w) 2 fa fd ["_law_keys"] (spOf K I 1 (C__law_ranks K)) :=
  fn_D F sc__law_ranks (fun cdv A outer s H E Ed hr tk => pd__law_ranks T  hr tk) fun ds Qd Ed h _ => ct__law_ranks h
theorem mk_c__law_ranks {P : Program} {w : World} {K : PySem.W.Frag} {mg : Str → Option Value} {base : Heap} {I : HI} {fa : Addr} {fd : FuncData} (F : FunD K "_law_ranks" "_law_ranks" (defArgs s__law_ranks) (defBody s__law_ranks) (defScope s__law_ranks) [] [] fa fd) (T : Tf K mg) (gm : mg "_law_ranks" = some (.ref fa))  : Cl P w K mg base I 2 "_law_ranks" 1 (C__law_ranks K) [] := by
  have B : L2.Binds K fd ["_law_keys"] [] := F.bindsN fun _ _ _ _ _ _ us hl => match us, hl with | [_], _ => rfl
  exact ⟨fa, fd, _, _, [], fn__law_ranks F T , gm, F.kp, B, .nil, fun H => by simp only [DenA]⟩
theorem fn__law_standings {P : Program} {w : World} {K : PySem.W.Frag} {mg : Str → Option Value} {base : Heap} {I : HI} {fa : Addr} {fd : FuncData} (F : FunD K "_law_standings" "_law_standings" (defArgs s__law_standings) (defBody s__law_standings) (defScope s__law_standings) [] [] fa fd) (T : Tf K mg)  :
    FnOk P w K mg base (L2.CX P w) 2 fa fd ["_law_k"] (spOf K I 1 (C__law_standings K)) :=
  fn_D F sc__law_standings (fun cdv A outer s H E Ed hr tk => pd__law_standings T  hr tk) fun ds Qd Ed h _ => ct__law_standings h
theorem mk_c__law_standings {P : Program} {w : World} {K : PySem.W.Frag} {mg : Str → Option Value} {base : Heap} {I : HI} {fa : Addr} {fd : FuncData} (F : FunD K "_law_standings" "_law_standings" (defArgs s__law_standings) (defBody s__law_standings) (defScope s__law_standings) [] [] fa fd) (T : Tf K mg) (gm : mg "_law_standings" = some (.ref fa))  : Cl P w K mg base I 2 "_law_standings" 1 (C__law_standings K) [] := by
  have B : L2.Binds K fd ["_law_k"] [] := F.bindsN fun _ _ _ _ _ _ us hl => match us, hl with | [_], _ => rfl
  exact ⟨fa, fd, _, _, [], fn__law_standings F T , gm, F.kp, B, .nil, fun H => by simp only [DenA]⟩
theorem fn__law_standing {P : Program} {w : World} {K : PySem.W.Frag} {mg : Str → Option Value} {base : Heap} {I : HI} {fa : Addr} {hd : Addr} {fd : FuncData} (F : FunD K "_law_standing" "_law_standing" (defArgs s__law_standing) (defBody s__law_standing) (defScope s__law_standing) [] [] fa fd) (T : Tf K mg) (c__law_ranks : Cl P w K mg base I 2 "_law_ranks" 1 (C__law_ranks K) []) (c__law_take : Cl P w K mg base I 3 "_law_take" 2 (C__law_take hd) []) :
    FnOk P w K mg base (L2.CX P w) 4 fa fd ["_law_hand_here", "_law_k"] (spOf K I 2 (C__law_standing K hd)) :=
  fn_D F sc__law_standing (fun cdv A outer s H E Ed hr tk => pd__law_standing T c__law_ranks c__law_take hr tk) fun ds Qd Ed h _ => ct__law_standing h
theorem mk_c__law_standing {P : Program} {w : World} {K : PySem.W.Frag} {mg : Str → Option Value} {base : Heap} {I : HI} {fa : Addr} {hd : Addr} {fd : FuncData} (F : FunD K "_law_standing" "_law_standing" (defArgs s__law_standing) (defBody s__law_standing) (defScope s__law_standing) [] [] fa fd) (T : Tf K mg) (gm : mg "_law_standing" = some (.ref fa)) (c__law_ranks : Cl P w K mg base I 2 "_law_ranks" 1 (C__law_ranks K) []) (c__law_take : Cl P w K mg base I 3 "_law_take" 2 (C__law_take hd) []) : Cl P w K mg base I 4 "_law_standing" 2 (C__law_standing K hd) [] := by
  have B : L2.Binds K fd ["_law_hand_here", "_law_k"] [] := F.bindsN fun _ _ _ _ _ _ us hl => match us, hl with | [_, _], _ => rfl
  exact ⟨fa, fd, _, _, [], fn__law_standing F T c__law_ranks c__law_take, gm, F.kp, B, .nil, fun H => by simp only [DenA]⟩
theorem fn__law_turned {P : Program} {w : World} {K : PySem.W.Frag} {mg : Str → Option Value} {base : Heap} {I : HI} {fa : Addr} {fd : FuncData} (F : FunD K "_law_turned" "_law_turned" (defArgs s__law_turned) (defBody s__law_turned) (defScope s__law_turned) [] [] fa fd) (T : Tf K mg)  :
    FnOk P w K mg base (L2.CX P w) 2 fa fd ["_law_standing_here"] (spOf K I 1 (C__law_turned K)) :=
  fn_D F sc__law_turned (fun cdv A outer s H E Ed hr tk => pd__law_turned T  hr tk) fun ds Qd Ed h _ => ct__law_turned h
theorem mk_c__law_turned {P : Program} {w : World} {K : PySem.W.Frag} {mg : Str → Option Value} {base : Heap} {I : HI} {fa : Addr} {fd : FuncData} (F : FunD K "_law_turned" "_law_turned" (defArgs s__law_turned) (defBody s__law_turned) (defScope s__law_turned) [] [] fa fd) (T : Tf K mg) (gm : mg "_law_turned" = some (.ref fa))  : Cl P w K mg base I 2 "_law_turned" 1 (C__law_turned K) [] := by
  have B : L2.Binds K fd ["_law_standing_here"] [] := F.bindsN fun _ _ _ _ _ _ us hl => match us, hl with | [_], _ => rfl
  exact ⟨fa, fd, _, _, [], fn__law_turned F T , gm, F.kp, B, .nil, fun H => by simp only [DenA]⟩
theorem fn__law_keeps {P : Program} {w : World} {K : PySem.W.Frag} {mg : Str → Option Value} {base : Heap} {I : HI} {fa : Addr} {fd : FuncData} (F : FunD K "_law_keeps" "_law_keeps" (defArgs s__law_keeps) (defBody s__law_keeps) (defScope s__law_keeps) [] [] fa fd) (T : Tf K mg)  :
    FnOk P w K mg base (L2.CX P w) 2 fa fd ["_law_rule_here", "_law_dating"] (spOf K I 2 (C__law_keeps K)) :=
  fn_D F sc__law_keeps (fun cdv A outer s H E Ed hr tk => pd__law_keeps T  hr tk) fun ds Qd Ed h _ => ct__law_keeps h
theorem mk_c__law_keeps {P : Program} {w : World} {K : PySem.W.Frag} {mg : Str → Option Value} {base : Heap} {I : HI} {fa : Addr} {fd : FuncData} (F : FunD K "_law_keeps" "_law_keeps" (defArgs s__law_keeps) (defBody s__law_keeps) (defScope s__law_keeps) [] [] fa fd) (T : Tf K mg) (gm : mg "_law_keeps" = some (.ref fa))  : Cl P w K mg base I 2 "_law_keeps" 2 (C__law_keeps K) [] := by
  have B : L2.Binds K fd ["_law_rule_here", "_law_dating"] [] := F.bindsN fun _ _ _ _ _ _ us hl => match us, hl with | [_, _], _ => rfl
  exact ⟨fa, fd, _, _, [], fn__law_keeps F T , gm, F.kp, B, .nil, fun H => by simp only [DenA]⟩
theorem fn__law_keep_all {P : Program} {w : World} {K : PySem.W.Frag} {mg : Str → Option Value} {base : Heap} {I : HI} {fa : Addr} {fd : FuncData} (F : FunD K "_law_keep_all" "_law_keep_all" (defArgs s__law_keep_all) (defBody s__law_keep_all) (defScope s__law_keep_all) [] [] fa fd) (T : Tf K mg) (c__law_keeps : Cl P w K mg base I 2 "_law_keeps" 2 (C__law_keeps K) []) :
    FnOk P w K mg base (L2.CX P w) 3 fa fd ["_law_rules_here", "_law_dating"] (spOf K I 2 (C__law_keep_all K)) :=
  fn_D F sc__law_keep_all (fun cdv A outer s H E Ed hr tk => pd__law_keep_all T c__law_keeps hr tk) fun ds Qd Ed h _ => ct__law_keep_all h
theorem mk_c__law_keep_all {P : Program} {w : World} {K : PySem.W.Frag} {mg : Str → Option Value} {base : Heap} {I : HI} {fa : Addr} {fd : FuncData} (F : FunD K "_law_keep_all" "_law_keep_all" (defArgs s__law_keep_all) (defBody s__law_keep_all) (defScope s__law_keep_all) [] [] fa fd) (T : Tf K mg) (gm : mg "_law_keep_all" = some (.ref fa)) (c__law_keeps : Cl P w K mg base I 2 "_law_keeps" 2 (C__law_keeps K) []) : Cl P w K mg base I 3 "_law_keep_all" 2 (C__law_keep_all K) [] := by
  have B : L2.Binds K fd ["_law_rules_here", "_law_dating"] [] := F.bindsN fun _ _ _ _ _ _ us hl => match us, hl with | [_, _], _ => rfl
  exact ⟨fa, fd, _, _, [], fn__law_keep_all F T c__law_keeps, gm, F.kp, B, .nil, fun H => by simp only [DenA]⟩
theorem fn__law_rule {P : Program} {w : World} {K : PySem.W.Frag} {mg : Str → Option Value} {base : Heap} {I : HI} {fa : Addr} {hd : Addr} {fd : FuncData} (F : FunD K "_law_rule" "_law_rule" (defArgs s__law_rule) (defBody s__law_rule) (defScope s__law_rule) [] [] fa fd) (T : Tf K mg) (c__law_take : Cl P w K mg base I 3 "_law_take" 2 (C__law_take hd) []) :
    FnOk P w K mg base (L2.CX P w) 4 fa fd ["_law_hand_here", "_law_n"] (spOf K I 2 (C__law_rule K hd)) :=
  fn_D F sc__law_rule (fun cdv A outer s H E Ed hr tk => pd__law_rule T c__law_take hr tk) fun ds Qd Ed h _ => ct__law_rule h
theorem mk_c__law_rule {P : Program} {w : World} {K : PySem.W.Frag} {mg : Str → Option Value} {base : Heap} {I : HI} {fa : Addr} {hd : Addr} {fd : FuncData} (F : FunD K "_law_rule" "_law_rule" (defArgs s__law_rule) (defBody s__law_rule) (defScope s__law_rule) [] [] fa fd) (T : Tf K mg) (gm : mg "_law_rule" = some (.ref fa)) (c__law_take : Cl P w K mg base I 3 "_law_take" 2 (C__law_take hd) []) : Cl P w K mg base I 4 "_law_rule" 2 (C__law_rule K hd) [] := by
  have B : L2.Binds K fd ["_law_hand_here", "_law_n"] [] := F.bindsN fun _ _ _ _ _ _ us hl => match us, hl with | [_, _], _ => rfl
  exact ⟨fa, fd, _, _, [], fn__law_rule F T c__law_take, gm, F.kp, B, .nil, fun H => by simp only [DenA]⟩
theorem fn__law_rules {P : Program} {w : World} {K : PySem.W.Frag} {mg : Str → Option Value} {base : Heap} {I : HI} {fa : Addr} {hd : Addr} {fd : FuncData} (F : FunD K "_law_rules" "_law_rules" (defArgs s__law_rules) (defBody s__law_rules) (defScope s__law_rules) [] [] fa fd) (T : Tf K mg) (c__law_rule : Cl P w K mg base I 4 "_law_rule" 2 (C__law_rule K hd) []) (c__law_take : Cl P w K mg base I 3 "_law_take" 2 (C__law_take hd) []) :
    FnOk P w K mg base (L2.CX P w) 5 fa fd ["_law_hand_here", "_law_n", "_law_many"] (spOf K I 3 (C__law_rules K hd)) :=
  fn_D F sc__law_rules (fun cdv A outer s H E Ed hr tk => pd__law_rules T c__law_rule c__law_take hr tk) fun ds Qd Ed h _ => ct__law_rules h
theorem mk_c__law_rules {P : Program} {w : World} {K : PySem.W.Frag} {mg : Str → Option Value} {base : Heap} {I : HI} {fa : Addr} {hd : Addr} {fd : FuncData} (F : FunD K "_law_rules" "_law_rules" (defArgs s__law_rules) (defBody s__law_rules) (defScope s__law_rules) [] [] fa fd) (T : Tf K mg) (gm : mg "_law_rules" = some (.ref fa)) (c__law_rule : Cl P w K mg base I 4 "_law_rule" 2 (C__law_rule K hd) []) (c__law_take : Cl P w K mg base I 3 "_law_take" 2 (C__law_take hd) []) : Cl P w K mg base I 5 "_law_rules" 3 (C__law_rules K hd) [] := by
  have B : L2.Binds K fd ["_law_hand_here", "_law_n", "_law_many"] [] := F.bindsN fun _ _ _ _ _ _ us hl => match us, hl with | [_, _, _], _ => rfl
  exact ⟨fa, fd, _, _, [], fn__law_rules F T c__law_rule c__law_take, gm, F.kp, B, .nil, fun H => by simp only [DenA]⟩
theorem fn__law_sorted {P : Program} {w : World} {K : PySem.W.Frag} {mg : Str → Option Value} {base : Heap} {I : HI} {fa : Addr} {fd : FuncData} (F : FunD K "_law_sorted" "_law_sorted" (defArgs s__law_sorted) (defBody s__law_sorted) (defScope s__law_sorted) [] [] fa fd) (T : Tf K mg) (c__law_ranks : Cl P w K mg base I 2 "_law_ranks" 1 (C__law_ranks K) []) :
    FnOk P w K mg base (L2.CX P w) 3 fa fd ["_law_t", "_law_cut", "_law_s"] (spOf K I 3 (C__law_sorted K)) :=
  fn_D F sc__law_sorted (fun cdv A outer s H E Ed hr tk => pd__law_sorted T c__law_ranks hr tk) fun ds Qd Ed h _ => ct__law_sorted h
theorem mk_c__law_sorted {P : Program} {w : World} {K : PySem.W.Frag} {mg : Str → Option Value} {base : Heap} {I : HI} {fa : Addr} {fd : FuncData} (F : FunD K "_law_sorted" "_law_sorted" (defArgs s__law_sorted) (defBody s__law_sorted) (defScope s__law_sorted) [] [] fa fd) (T : Tf K mg) (gm : mg "_law_sorted" = some (.ref fa)) (c__law_ranks : Cl P w K mg base I 2 "_law_ranks" 1 (C__law_ranks K) []) : Cl P w K mg base I 3 "_law_sorted" 3 (C__law_sorted K) [] := by
  have B : L2.Binds K fd ["_law_t", "_law_cut", "_law_s"] [] := F.bindsN fun _ _ _ _ _ _ us hl => match us, hl with | [_, _, _], _ => rfl
  exact ⟨fa, fd, _, _, [], fn__law_sorted F T c__law_ranks, gm, F.kp, B, .nil, fun H => by simp only [DenA]⟩
theorem fn__law_plain {P : Program} {w : World} {K : PySem.W.Frag} {mg : Str → Option Value} {base : Heap} {I : HI} {fa : Addr} {fd : FuncData} (F : FunD K "_law_plain" "_law_plain" (defArgs s__law_plain) (defBody s__law_plain) (defScope s__law_plain) [] [] fa fd) (T : Tf K mg) (c__law_whole : Cl P w K mg base I 2 "_law_whole" 1 (C__law_whole K) []) :
    FnOk P w K mg base (L2.CX P w) 3 fa fd ["_law_thing", "_law_n"] (spOf K I 2 (C__law_plain K)) :=
  fn_D F sc__law_plain (fun cdv A outer s H E Ed hr tk => pd__law_plain T c__law_whole hr tk) fun ds Qd Ed h _ => ct__law_plain h
theorem mk_c__law_plain {P : Program} {w : World} {K : PySem.W.Frag} {mg : Str → Option Value} {base : Heap} {I : HI} {fa : Addr} {fd : FuncData} (F : FunD K "_law_plain" "_law_plain" (defArgs s__law_plain) (defBody s__law_plain) (defScope s__law_plain) [] [] fa fd) (T : Tf K mg) (gm : mg "_law_plain" = some (.ref fa)) (c__law_whole : Cl P w K mg base I 2 "_law_whole" 1 (C__law_whole K) []) : Cl P w K mg base I 3 "_law_plain" 2 (C__law_plain K) [] := by
  have B : L2.Binds K fd ["_law_thing", "_law_n"] [] := F.bindsN fun _ _ _ _ _ _ us hl => match us, hl with | [_, _], _ => rfl
  exact ⟨fa, fd, _, _, [], fn__law_plain F T c__law_whole, gm, F.kp, B, .nil, fun H => by simp only [DenA]⟩
theorem fn__law_word {P : Program} {w : World} {K : PySem.W.Frag} {mg : Str → Option Value} {base : Heap} {I : HI} {fa : Addr} {fd : FuncData} (F : FunD K "_law_word" "_law_word" (defArgs s__law_word) (defBody s__law_word) (defScope s__law_word) [] [] fa fd) (T : Tf K mg) (c_sorted_over : Cl P w K mg base I 6 "sorted_over" 3 (C_sorted_over K) []) (hnx : I.noXd) (XS : Xs K) :
    FnOk P w K mg base (L2.CX P w) 7 fa fd ["_law_one", "_law_cut", "_law_other"] (spOf K I 3 (C__law_word K)) :=
  fn_D F sc__law_word (fun cdv A outer s H E Ed hr tk => pd__law_word T c_sorted_over hnx hr tk) fun ds Qd Ed h _ => ct__law_word XS h
theorem mk_c__law_word {P : Program} {w : World} {K : PySem.W.Frag} {mg : Str → Option Value} {base : Heap} {I : HI} {fa : Addr} {fd : FuncData} (F : FunD K "_law_word" "_law_word" (defArgs s__law_word) (defBody s__law_word) (defScope s__law_word) [] [] fa fd) (T : Tf K mg) (gm : mg "_law_word" = some (.ref fa)) (c_sorted_over : Cl P w K mg base I 6 "sorted_over" 3 (C_sorted_over K) []) (hnx : I.noXd) (XS : Xs K) : Cl P w K mg base I 7 "_law_word" 3 (C__law_word K) [] := by
  have B : L2.Binds K fd ["_law_one", "_law_cut", "_law_other"] [] := F.bindsN fun _ _ _ _ _ _ us hl => match us, hl with | [_, _, _], _ => rfl
  exact ⟨fa, fd, _, _, [], fn__law_word F T c_sorted_over hnx XS, gm, F.kp, B, .nil, fun H => by simp only [DenA]⟩
theorem mk_c__law_take {P : Program} {w : World} {K : PySem.W.Frag} {mg : Str → Option Value} {base : Heap} {fa hd c : Addr} {fd : FuncData} (F : FunD K "_law_take" "_law_take" (defArgs s__law_take) (defBody s__law_take) (defScope s__law_take) [] [] fa fd) (hne : hd ≠ c) (T : Tf K mg) (gm : mg "_law_take" = some (.ref fa)) (c__law_mixed : Cl P w K mg base (handI hd c) 2 "_law_mixed" 2 (C__law_mixed K) []) : Cl P w K mg base (handI hd c) 3 "_law_take" 2 (C__law_take hd) [] := by
  have B : L2.Binds K fd ["_law_hand_here", "_law_many"] [] := F.bindsN fun _ _ _ _ _ _ us hl => match us, hl with | [_, _], _ => rfl
  exact ⟨fa, fd, _, _, [], fn__law_take hne F T c__law_mixed, gm, F.kp, B, .nil, fun H => by simp only [DenA]⟩
theorem mk_c__law_hand {P : Program} {w : World} {K : PySem.W.Frag} {mg : Str → Option Value} {base : Heap} {I : HI} {fa : Addr} {fd : FuncData} (F : FunD K "_law_hand" "_law_hand" (defArgs s__law_hand) (defBody s__law_hand) (defScope s__law_hand) [] [] fa fd) (T : Tf K mg) (gm : mg "_law_hand" = some (.ref fa))  : Cl P w K mg base I 2 "_law_hand" 1 (C_hand K) [] := by
  have B : L2.Binds K fd ["_law_script"] [] := F.bindsN fun _ _ _ _ _ _ us hl => match us, hl with | [_], _ => rfl
  exact ⟨fa, fd, _, _, [], fn__law_hand F T , gm, F.kp, B, .nil, fun H => by simp only [DenA]⟩
end K65

namespace K65
open PySem PySem.Spec PyProof.Rows L2 Dl Ns Zs Zz Rk
def clsBody : Stmt → List Stmt
  | .ClassDef (body := bd) .. => bd
  | _ => []
abbrev m_BadStanding : Stmt := (clsBody (top 2)).getD 0 (.Pass ⟨0, 0, 0, 0⟩)
def fns : List He.DefD := [defD s_is_whole none "is_whole" [.non, .non], defD s_check_standing none "check_standing" [.non], defD s_standing_of none "standing_of" [], defD s_ranks_number none "ranks_number" [], defD s_check_over none "check_over" [], defD s_sorted_over none "sorted_over" [], defD s__sorting_of none "_sorting_of" [], defD s__law_hand none "_law_hand" [], defD s__law_mixed none "_law_mixed" [], defD s__law_take none "_law_take" [], defD s__law_whole none "_law_whole" [], defD s__law_ranks none "_law_ranks" [], defD s__law_standings none "_law_standings" [], defD s__law_standing none "_law_standing" [], defD s__law_turned none "_law_turned" [], defD s__law_keeps none "_law_keeps" [], defD s__law_keep_all none "_law_keep_all" [], defD s__law_rule none "_law_rule" [], defD s__law_rules none "_law_rules" [], defD s__law_sorted none "_law_sorted" [], defD s__law_plain none "_law_plain" [], defD s__law_word none "_law_word" [], defD s_law none "law" [], defD m_BadStanding (some "BadStanding") "__init__" []]
def fa : List He.Fa := [.glo "is_whole", .glo "check_standing", .glo "standing_of", .glo "ranks_number", .glo "check_over", .glo "sorted_over", .glo "_sorting_of", .glo "_law_hand", .glo "_law_mixed", .glo "_law_take", .glo "_law_whole", .glo "_law_ranks", .glo "_law_standings", .glo "_law_standing", .glo "_law_turned", .glo "_law_keeps", .glo "_law_keep_all", .glo "_law_rule", .glo "_law_rules", .glo "_law_sorted", .glo "_law_plain", .glo "_law_word", .glo "law", .glo "DateError", .glo "BadStanding", .glo "OtherPlaces", .glo "BadCut", .free "abs", .free "all", .free "bool", .free "enumerate", .free "int", .free "isinstance", .free "len", .free "list", .free "max", .free "range", .free "set", .free "sorted", .free "tuple", .free "zip", .int "MOST_PLACES" 7]
def exF (K : PySem.W.Frag) : Bool := errB K "BadStanding" "index" && (Zs.erRB K "BadCut" && (Zs.erRB K "OtherPlaces" && (xsB K)))
abbrev R : PySem.W.OpenRow := PySem.W.OpenLaw.row PySem.Challenge.rw_earliestlots_k65_whole_datings_sorted_ov
abbrev qv : Program := PySem.W.view R.prog [32]
abbrev hk : PySem.W.Hook := hookZ 5 fa fns exF
def ob (s : PySem.W.SharedT) : AlZ := obsZ 5 fa fns exF (HandSHeadRun.getT s)
theorem ob_eq (s : PySem.W.SharedT) : ob s = hk.obs s.abs := obsZ_eq (HandSHeadRun.getT_eq s)
def names : List Str := ["DateError", "BadStanding", "OtherPlaces", "BadCut", "MOST_PLACES", "is_whole", "check_standing", "standing_of", "ranks_number", "check_over", "sorted_over", "_sorting_of", "_law_hand", "_law_mixed", "_law_take", "_law_whole", "_law_ranks", "_law_standings", "_law_standing", "_law_turned", "_law_keeps", "_law_keep_all", "_law_rule", "_law_rules", "_law_sorted", "_law_plain", "_law_word"]
theorem run (w : World) : HandSHeadRun.RunEq R qv hk ob 3000 names w := by
  intro os
  kernel_rfl
end K65

namespace K65
open PySem PySem.Spec PyProof.Rows L2 Dl Ns Zs Zz Rk
theorem fn_law {P : Program} {w : World} {K : PySem.W.Frag} {mg : Str → Option Value} {base : Heap} {fa : Addr} {fd : FuncData} (F : FunD K "law" "law" (defArgs s_law) (defBody s_law) (defScope s_law) [] [] fa fd) (T : Tf K mg)
    (c__law_hand : Cl P w K mg base HI.plain 2 "_law_hand" 1 (C_hand K) []) (hs : ∀ hd c, hd ≠ c → Cl P w K mg base (handI hd c) 3 "_law_keep_all" 2 (C__law_keep_all K) [] ∧ Cl P w K mg base (handI hd c) 3 "_law_plain" 2 (C__law_plain K) [] ∧ Cl P w K mg base (handI hd c) 5 "_law_rules" 3 (C__law_rules K hd) [] ∧ Cl P w K mg base (handI hd c) 3 "_law_sorted" 3 (C__law_sorted K) [] ∧ Cl P w K mg base (handI hd c) 4 "_law_standing" 2 (C__law_standing K hd) [] ∧ Cl P w K mg base (handI hd c) 2 "_law_standings" 1 (C__law_standings K) [] ∧ Cl P w K mg base (handI hd c) 3 "_law_take" 2 (C__law_take hd) [] ∧ Cl P w K mg base (handI hd c) 2 "_law_turned" 1 (C__law_turned K) [] ∧ Cl P w K mg base (handI hd c) 7 "_law_word" 3 (C__law_word K) [] ∧ Cl P w K mg base (handI hd c) 6 "sorted_over" 3 (C_sorted_over K) []) :
    FnOk P w K mg base (L2.CX P w) 8 fa fd ["_law_script"] (spLaw K) := by
  obtain ⟨fh, fdh, psh, dsh, dvsh, Fh, gh, kh, bh, vh, dh⟩ := c__law_hand
  have e1 : dvsh = [] := (dh (fun _ => none)).nil
  subst e1
  cases vh
  refine F.ok sc_law (fun vs H Q E ⟨a, ns, e, _⟩ => by rw [e]; rfl) (fun cdv A outer s H vs Q E hr h => ?_)
  obtain ⟨a, ns, rfl, hl, o, sq, hQ⟩ := h
  have nd := sc_law.nd
  have tk : Takes (cxD P w K mg base N_law "law" (defScope s_law) fa cdv A outer s H E) (gOf HI.plain (fun _ => False) E).W := takes_of rfl rfl rfl rfl
  refine ⟨_, pss_cons (ps_set (i := 1) nd rfl (Or.inl rfl) (pe_call Fh (hr.mono (by decide)) rfl gh kh bh .nil passL (pa_cons (pv 0) pa_nil))) pss_w, ?_⟩
  exact law_run (X := cxD P w K mg base N_law "law" (defScope s_law) fa cdv A outer s H E) (rest := (defBody s_law).tail) (td := fun hd => d_law K hd (fun _ _ => False)) (n := 14) (W := (gOf HI.plain (fun _ => False) E).W) rfl (fun hd c hne => have Z := hs hd c hne; pd_law (Ed := fun _ => False) T (Z.1) (Z.2.1) (Z.2.2.1) (Z.2.2.2.1) (Z.2.2.2.2.1) (Z.2.2.2.2.2.1) (Z.2.2.2.2.2.2.1) (Z.2.2.2.2.2.2.2.1) (Z.2.2.2.2.2.2.2.2.1) (Z.2.2.2.2.2.2.2.2.2) hr tk) (fun hd => ct_law) hl o sq hQ
theorem facts {P : Program} {w : World} {K : PySem.W.Frag} {h : Heap} {mg : Str → Option Value} {f : Addr} (X : K.In h) (G : h.Ns mainGlobals mg) (hfa : mg ("law" : Str) = some (.ref f)) (c : He.SaysD fa fns K) (x : exF K = true) :
    ∃ fd : FuncData, (∀ (s : Shared) (v : Value), BindsTo s fd ⟨[v], []⟩ [("_law_script", v)]) ∧ ∀ base : Heap, K.In base → base.Ns mainGlobals mg → FnOk P w K mg base (L2.CX P w) 8 f fd ["_law_script"] (spLaw K) := by
  obtain ⟨fd_is_whole, F_is_whole⟩ := c.def_ 0 (d := defD s_is_whole none "is_whole" [.non, .non]) rfl
  have g_is_whole := He.glo_ok X G (c.fact 0 (f := .glo "is_whole") rfl)
  obtain ⟨fd_check_standing, F_check_standing⟩ := c.def_ 1 (d := defD s_check_standing none "check_standing" [.non]) rfl
  have g_check_standing := He.glo_ok X G (c.fact 1 (f := .glo "check_standing") rfl)
  obtain ⟨fd_standing_of, F_standing_of⟩ := c.def_ 2 (d := defD s_standing_of none "standing_of" []) rfl
  have g_standing_of := He.glo_ok X G (c.fact 2 (f := .glo "standing_of") rfl)
  obtain ⟨fd_ranks_number, F_ranks_number⟩ := c.def_ 3 (d := defD s_ranks_number none "ranks_number" []) rfl
  have g_ranks_number := He.glo_ok X G (c.fact 3 (f := .glo "ranks_number") rfl)
  obtain ⟨fd_check_over, F_check_over⟩ := c.def_ 4 (d := defD s_check_over none "check_over" []) rfl
  have g_check_over := He.glo_ok X G (c.fact 4 (f := .glo "check_over") rfl)
  obtain ⟨fd_sorted_over, F_sorted_over⟩ := c.def_ 5 (d := defD s_sorted_over none "sorted_over" []) rfl
  have g_sorted_over := He.glo_ok X G (c.fact 5 (f := .glo "sorted_over") rfl)
  obtain ⟨fd__sorting_of, F__sorting_of⟩ := c.def_ 6 (d := defD s__sorting_of none "_sorting_of" []) rfl
  have g__sorting_of := He.glo_ok X G (c.fact 6 (f := .glo "_sorting_of") rfl)
  obtain ⟨fd__law_hand, F__law_hand⟩ := c.def_ 7 (d := defD s__law_hand none "_law_hand" []) rfl
  have g__law_hand := He.glo_ok X G (c.fact 7 (f := .glo "_law_hand") rfl)
  obtain ⟨fd__law_mixed, F__law_mixed⟩ := c.def_ 8 (d := defD s__law_mixed none "_law_mixed" []) rfl
  have g__law_mixed := He.glo_ok X G (c.fact 8 (f := .glo "_law_mixed") rfl)
  obtain ⟨fd__law_take, F__law_take⟩ := c.def_ 9 (d := defD s__law_take none "_law_take" []) rfl
  have g__law_take := He.glo_ok X G (c.fact 9 (f := .glo "_law_take") rfl)
  obtain ⟨fd__law_whole, F__law_whole⟩ := c.def_ 10 (d := defD s__law_whole none "_law_whole" []) rfl
  have g__law_whole := He.glo_ok X G (c.fact 10 (f := .glo "_law_whole") rfl)
  obtain ⟨fd__law_ranks, F__law_ranks⟩ := c.def_ 11 (d := defD s__law_ranks none "_law_ranks" []) rfl
  have g__law_ranks := He.glo_ok X G (c.fact 11 (f := .glo "_law_ranks") rfl)
  obtain ⟨fd__law_standings, F__law_standings⟩ := c.def_ 12 (d := defD s__law_standings none "_law_standings" []) rfl
  have g__law_standings := He.glo_ok X G (c.fact 12 (f := .glo "_law_standings") rfl)
  obtain ⟨fd__law_standing, F__law_standing⟩ := c.def_ 13 (d := defD s__law_standing none "_law_standing" []) rfl
  have g__law_standing := He.glo_ok X G (c.fact 13 (f := .glo "_law_standing") rfl)
  obtain ⟨fd__law_turned, F__law_turned⟩ := c.def_ 14 (d := defD s__law_turned none "_law_turned" []) rfl
  have g__law_turned := He.glo_ok X G (c.fact 14 (f := .glo "_law_turned") rfl)
  obtain ⟨fd__law_keeps, F__law_keeps⟩ := c.def_ 15 (d := defD s__law_keeps none "_law_keeps" []) rfl
  have g__law_keeps := He.glo_ok X G (c.fact 15 (f := .glo "_law_keeps") rfl)
  obtain ⟨fd__law_keep_all, F__law_keep_all⟩ := c.def_ 16 (d := defD s__law_keep_all none "_law_keep_all" []) rfl
  have g__law_keep_all := He.glo_ok X G (c.fact 16 (f := .glo "_law_keep_all") rfl)
  obtain ⟨fd__law_rule, F__law_rule⟩ := c.def_ 17 (d := defD s__law_rule none "_law_rule" []) rfl
  have g__law_rule := He.glo_ok X G (c.fact 17 (f := .glo "_law_rule") rfl)
  obtain ⟨fd__law_rules, F__law_rules⟩ := c.def_ 18 (d := defD s__law_rules none "_law_rules" []) rfl
  have g__law_rules := He.glo_ok X G (c.fact 18 (f := .glo "_law_rules") rfl)
  obtain ⟨fd__law_sorted, F__law_sorted⟩ := c.def_ 19 (d := defD s__law_sorted none "_law_sorted" []) rfl
  have g__law_sorted := He.glo_ok X G (c.fact 19 (f := .glo "_law_sorted") rfl)
  obtain ⟨fd__law_plain, F__law_plain⟩ := c.def_ 20 (d := defD s__law_plain none "_law_plain" []) rfl
  have g__law_plain := He.glo_ok X G (c.fact 20 (f := .glo "_law_plain") rfl)
  obtain ⟨fd__law_word, F__law_word⟩ := c.def_ 21 (d := defD s__law_word none "_law_word" []) rfl
  have g__law_word := He.glo_ok X G (c.fact 21 (f := .glo "_law_word") rfl)
  obtain ⟨fd_law, F_law⟩ := c.def_ 22 (d := defD s_law none "law" []) rfl
  have g_law := He.glo_ok X G (c.fact 22 (f := .glo "law") rfl)
  obtain ⟨fd_BadStanding, F_BadStanding⟩ := c.def_ 23 (d := defD m_BadStanding (some "BadStanding") "__init__" []) rfl
  have g_DateError := He.glo_ok X G (c.fact 23 (f := .glo "DateError") rfl)
  have g_BadStanding := He.glo_ok X G (c.fact 24 (f := .glo "BadStanding") rfl)
  have g_OtherPlaces := He.glo_ok X G (c.fact 25 (f := .glo "OtherPlaces") rfl)
  have g_BadCut := He.glo_ok X G (c.fact 26 (f := .glo "BadCut") rfl)
  have T : Tf K mg := ⟨He.free_ok X G (c.fact 27 (f := .free "abs") rfl), He.free_ok X G (c.fact 28 (f := .free "all") rfl), He.free_ok X G (c.fact 29 (f := .free "bool") rfl), He.free_ok X G (c.fact 30 (f := .free "enumerate") rfl), He.free_ok X G (c.fact 31 (f := .free "int") rfl), He.free_ok X G (c.fact 32 (f := .free "isinstance") rfl), He.free_ok X G (c.fact 33 (f := .free "len") rfl), He.free_ok X G (c.fact 34 (f := .free "list") rfl), He.free_ok X G (c.fact 35 (f := .free "max") rfl), He.free_ok X G (c.fact 36 (f := .free "range") rfl), He.free_ok X G (c.fact 37 (f := .free "set") rfl), He.free_ok X G (c.fact 38 (f := .free "sorted") rfl), He.free_ok X G (c.fact 39 (f := .free "tuple") rfl), He.free_ok X G (c.fact 40 (f := .free "zip") rfl), g_BadCut, g_BadStanding, g_OtherPlaces, He.int_ok X G (c.fact 41 (f := .int "MOST_PLACES" 7) rfl)⟩
  obtain ⟨x0, x⟩ := He.ba x
  obtain ⟨x1, x⟩ := He.ba x
  obtain ⟨x2, x3⟩ := He.ba x
  have er_BadStanding : ∀ base : Heap, Er P w K mg base "BadStanding" "index" := fun base => ⟨errB_ok x0, g_BadStanding, fd_BadStanding, init_ok (errB_ok x0).e (by decide) (by decide) (by decide) (Or.inl rfl) (Or.inl rfl) F_BadStanding ⟨rfl, rfl, rfl, by decide +kernel, rfl, by decide +kernel, by decide +kernel⟩ (fun _ => rfl), F_BadStanding.bindsN fun _ _ _ _ _ _ us hl => match us, hl with | [_, _], _ => rfl⟩
  have eR_BadCut := Zs.erR_of x1 g_BadCut
  have eR_OtherPlaces := Zs.erR_of x2 g_OtherPlaces
  have XS : Xs K := xsB_ok x3
  have e := hfa.symm.trans g_law
  cases e
  have b := FunD.bindsA (ps := ["_law_script"]) F_law fun _ _ _ _ _ _ us hl => match us, hl with | [_], _ => rfl
  refine ⟨fd_law, fun s v => b s [v] rfl, fun base _ _ => ?_⟩
  refine fn_law F_law T (mk_c__law_hand F__law_hand T g__law_hand) fun hd c hne => ?_
  have c__law_mixed := mk_c__law_mixed (P := P) (w := w) (base := base) (I := handI hd c) F__law_mixed T g__law_mixed 
  have c__law_take := mk_c__law_take (P := P) (w := w) (base := base) F__law_take hne T g__law_take c__law_mixed
  have c_is_whole_2 := mk_c_is_whole_2 (P := P) (w := w) (base := base) (I := handI hd c) F_is_whole T g_is_whole 
  have c_is_whole := mk_c_is_whole (P := P) (w := w) (base := base) (I := handI hd c) F_is_whole T g_is_whole 
  have c_check_standing_1 := mk_c_check_standing_1 (P := P) (w := w) (base := base) (I := handI hd c) F_check_standing T g_check_standing c_is_whole_2 (er_BadStanding base)
  have c_standing_of := mk_c_standing_of (P := P) (w := w) (base := base) (I := handI hd c) F_standing_of T g_standing_of 
  have c_ranks_number := mk_c_ranks_number (P := P) (w := w) (base := base) (I := handI hd c) F_ranks_number T g_ranks_number c_check_standing_1
  have c_check_over := mk_c_check_over (P := P) (w := w) (base := base) (I := handI hd c) F_check_over T g_check_over c_check_standing_1 c_is_whole c_ranks_number eR_BadCut eR_OtherPlaces
  have c__sorting_of := mk_c__sorting_of (P := P) (w := w) (base := base) (I := handI hd c) F__sorting_of T g__sorting_of c_standing_of
  have c_sorted_over := mk_c_sorted_over (P := P) (w := w) (base := base) (I := handI hd c) F_sorted_over T g_sorted_over c__sorting_of c_check_over
  have c__law_whole := mk_c__law_whole (P := P) (w := w) (base := base) (I := handI hd c) F__law_whole T g__law_whole 
  have c__law_ranks := mk_c__law_ranks (P := P) (w := w) (base := base) (I := handI hd c) F__law_ranks T g__law_ranks 
  have c__law_standings := mk_c__law_standings (P := P) (w := w) (base := base) (I := handI hd c) F__law_standings T g__law_standings 
  have c__law_standing := mk_c__law_standing (P := P) (w := w) (base := base) (I := handI hd c) (hd := hd) F__law_standing T g__law_standing c__law_ranks c__law_take
  have c__law_turned := mk_c__law_turned (P := P) (w := w) (base := base) (I := handI hd c) F__law_turned T g__law_turned 
  have c__law_keeps := mk_c__law_keeps (P := P) (w := w) (base := base) (I := handI hd c) F__law_keeps T g__law_keeps 
  have c__law_keep_all := mk_c__law_keep_all (P := P) (w := w) (base := base) (I := handI hd c) F__law_keep_all T g__law_keep_all c__law_keeps
  have c__law_rule := mk_c__law_rule (P := P) (w := w) (base := base) (I := handI hd c) (hd := hd) F__law_rule T g__law_rule c__law_take
  have c__law_rules := mk_c__law_rules (P := P) (w := w) (base := base) (I := handI hd c) (hd := hd) F__law_rules T g__law_rules c__law_rule c__law_take
  have c__law_sorted := mk_c__law_sorted (P := P) (w := w) (base := base) (I := handI hd c) F__law_sorted T g__law_sorted c__law_ranks
  have c__law_plain := mk_c__law_plain (P := P) (w := w) (base := base) (I := handI hd c) F__law_plain T g__law_plain c__law_whole
  have c__law_word := mk_c__law_word (P := P) (w := w) (base := base) (I := handI hd c) F__law_word T g__law_word c_sorted_over (handI_noXd hd c) XS
  exact ⟨c__law_keep_all, c__law_plain, c__law_rules, c__law_sorted, c__law_standing, c__law_standings, c__law_take, c__law_turned, c__law_word, c_sorted_over⟩
end K65
open PySem PySem.W PySem.Calls PyProof.Rows
theorem PySem.Challenge.cw_earliestlots_k65_whole_datings_sorted_ov_holds : PySem.Challenge.rw_earliestlots_k65_whole_datings_sorted_ov.Holds := by
  w_on; o_law
  refine HandSHeadRun.head_any (r := OpenLaw.row PySem.Challenge.rw_earliestlots_k65_whole_datings_sorted_ov) (q := view (OpenLaw.row PySem.Challenge.rw_earliestlots_k65_whole_datings_sorted_ov).prog [32]) (H := K65.hk) (ob := K65.ob) (M := 3000) (loose := K65.names) (d := HandSHeadRun.topDef (OpenLaw.row PySem.Challenge.rw_earliestlots_k65_whole_datings_sorted_ov).prog 32) (kwd := []) K65.ob_eq
    (by kernel_rfl) (fun s => by kernel_rfl) K65.run (by kernel_rfl) (by kernel_rfl) (by kernel_rfl) (by rfl) (by first | assumption | decide +kernel) (by decide +kernel) ⟨rfl, rfl, rfl, rfl, rfl, by decide +kernel⟩ ?hw ?hc
  case hw => w_witness2
  case hc =>
    refine L2.walk_ofE (l := PySem.Challenge.rw_earliestlots_k65_whole_datings_sorted_ov) (n := 63) (k := 8) (x := "_law_script") (CX := L2.CX0) rfl (by decide) (by kernel_rfl) ⟨rfl, by decide, by decide⟩ ?F (fun _ _ _ _ z => z)
    intro w mg fa h Y G hmg0
    obtain ⟨K, KX, c, x⟩ := Y
    have hmg : mg ("law" : PySem.Str) = some (.ref fa) := by
      have e : (HandSHeadRun.topDef (OpenLaw.row PySem.Challenge.rw_earliestlots_k65_whole_datings_sorted_ov).prog 32).name = ("law" : PySem.Str) := by kernel_rfl
      rw [← e]
      exact hmg0
    obtain ⟨fd, hb, hF⟩ := K65.facts (P := PySem.Challenge.rw_earliestlots_k65_whole_datings_sorted_ov.prog) (w := w) KX G hmg c x
    exact ⟨K, fd, Dl.spLaw K, KX, hb, fun H a ns hl ho hS => ⟨a, ns, rfl, hl, ho, hS, fun _ => rfl⟩, fun base h1 h2 => Dl.law_cx0 (hF base h1 h2)⟩

