import PyProof.Rows.All
import Wide.All
import OpenK.AllK
import Wide.FinOn
import HandS.ForMost
import HandS.Wide
import HandS.IsInst
import HandS.TupAny
import HandS.Style
import HandS.FStr
import HandS.StrMore
import HandS.WordsExc
import HandS.ExcInit
import HandS.ExcField
import HandS.CallSlots
import HandS.Defaults
import KE.KExcIs
import HandS.ExcIs
import KE.GoesMore
import KE.GoesEnum
import HandS.Iter
import HandS.Walk
import HandS.DictComp
import KE.KSortTupUse
import KE.KDictSum
import KE.KDictCopyH
import HandS.SortRule
import HandS.Conv
import HandS.Set
import HandS.Keys
import HandS.DictTup
import KE.KDictPairs
import HandS.WideBits
import HandS.TupLe
import HandS.TupLen
import HandS.Conv
import HandS.DictEq
import HandS.Deep
import KE.DataEq
import HandS.Rev
import HandS.DictSub
import HandS.Zip
import HandS.Gcd
import HandS.SortInts
import HandS.SetKeys
import HandS.TupSets
import PyProof.Rows.SetFrom
import KE.KeyNested
import PySem.Challenge.RW_streetpapers_k09_across_corners
set_option Elab.async false
set_option linter.all false
set_option maxRecDepth 100000
set_option maxHeartbeats 4000000
namespace Sb
open PySem PySem.Spec PyProof.Rows L2 TL
/-! ### defs of the text, and what they promise -/
structure DefAt (K : PySem.W.Frag) (mg : Str → Option Value) (x : Str) (st : Stmt) (ps : List Str) : Prop where
  ex : ∃ (f : Addr) (fd : FuncData), Fun K x x st f fd ∧ mg x = some (.ref f) ∧ Binds K fd ps []
structure Cal (P : Program) (w : World) (K : PySem.W.Frag) (mg : Str → Option Value) (base : Heap) (CX : CXT) (x : Str) (k : Nat) (ps : List Str) (sp : Sp) : Prop where
  ex : ∃ (f : Addr) (fd : FuncData), FnOk P w K mg base CX k f fd ps sp ∧ mg x = some (.ref f) ∧ PySem.W.keepIn K (.ref f) = true ∧ Binds K fd ps []
section
variable {P : Program} {w : World} {K : PySem.W.Frag} {mg : Str → Option Value} {base : Heap}
theorem Cal.mono {CX : CXT} {x : Str} {j k : Nat} {ps : List Str} {sp : Sp} (C : Cal P w K mg base CX x j ps sp) (h : j ≤ k) : Cal P w K mg base CX x k ps sp := by
  obtain ⟨f, fd, F, m, kp, b⟩ := C.ex
  exact ⟨f, fd, F.mono h, m, kp, b⟩
theorem Cal.imp {CX : CXT} {x : Str} {k : Nat} {ps : List Str} {sp sp' : Sp} (C : Cal P w K mg base CX x k ps sp) (h : ∀ vs H Q E, sp' vs H Q E → sp vs H Q E) : Cal P w K mg base CX x k ps sp' := by
  obtain ⟨f, fd, F, m, kp, b⟩ := C.ex
  exact ⟨f, fd, F.imp h, m, kp, b⟩
theorem DefAt.cal {x : Str} {st : Stmt} {N ps : List Str} {k : Nat} {sp : Sp} (D : DefAt K mg x st ps) (S : FnScope N ps (defScope st)) (len : ∀ vs H Q E, sp vs H Q E → vs.length = ps.length)
    (hbody : ∀ (f : Addr) (cdv : Value) (A : Around) (outer : List Env) (s : Shared) (H : Hp) (vs : List V) (Q : VK) (E : XK), Room k (A.deeper (envOfC x (defScope st) s.heap.objs.size f cdv)) → sp vs H Q E →
      ∃ t, PSs (cxOf CX0 P w K mg base N x (defScope st) f cdv A outer s H E).nox (defBody st) t ∧ t { nx := fun _ H' => Q .non H', rt := Q } (start N vs) H) : Cal P w K mg base CX0 x (k + 1) ps sp := by
  obtain ⟨f, fd, F, m, b⟩ := D.ex
  exact ⟨f, fd, F.ok S len (hbody f), m, F.kp, b⟩
end
section
variable {X : Cx} {CX : CXT} {k j : Nat} {ps : List Str} {sp : Sp} {x : Str} {p pos : Pos} {e : Expr} {es : List Expr} {t : TA}
theorem pe_own (C : Cal X.prog X.w X.K X.mg X.base CX0 x k ps sp) (hr : Room j X.A) (hk : k ≤ j) (ha : PA X (e :: es) t) (hg : Gl X x := by rfl) (hdb : (x == ("__debug__" : Str)) = false := by decide)
    (he : starEach (e :: es) X.env = (false, eval e X.env) :: starEach es X.env := by rfl) (hpl : (backTo pos (starEach es X.env)).any (·.1) = false := by rfl) : PE X (.Call (.Name x p) (e :: es) [] pos) (tCall sp [] E0 t) := by
  obtain ⟨f, fd, F, m, kp, b⟩ := C.ex
  exact pe_call F (hr.mono hk) hg m kp b .nil pass0 ha hdb he hpl
theorem pe_own0 (C : Cal X.prog X.w X.K X.mg X.base CX0 x k ps sp) (hr : Room j X.A) (hk : k ≤ j) (hg : Gl X x := by rfl) (hdb : (x == ("__debug__" : Str)) = false := by decide) : PE X (.Call (.Name x p) [] [] pos) (tCall sp [] E0 tNil) := by
  obtain ⟨f, fd, F, m, kp, b⟩ := C.ex
  exact pe_call0 F (hr.mono hk) hg m kp b .nil pass0 hdb
end
/-- a word that the steps do not enter -/
structure Ok (p : Prop) : Prop where
  o : p
/-! ### heaps -/
def KeepB (r : Addr) (H H' : Hp) : Prop := ∀ b o, b ≠ r → H b = some o → H' b = some o
theorem KeepB.refl (r : Addr) (H : Hp) : KeepB r H H := fun _ _ _ h => h
theorem KeepB.trans {r : Addr} {H H1 H2 : Hp} (a : KeepB r H H1) (b : KeepB r H1 H2) : KeepB r H H2 := fun c o n h => b c o n (a c o n h)
theorem KeepB.put {r : Addr} {H : Hp} {o : HO} : KeepB r H (upd H r o) := fun b u n h => by
  rw [upd_ne n]
  exact h
theorem Same.keepB {r : Addr} {H H' : Hp} (s : Same H H') : KeepB r H H' := fun b o _ h => s b o h
theorem Same.new {H : Hp} {p : Addr} {o : HO} (h : H p = none) : Same H (upd H p o) := fun b u e => by
  rw [upd_ne (ne_of_none e h)]
  exact e
/-- tuples and what is frozen stay -/
structure TK (H H' : Hp) : Prop where
  tup : ∀ b xs, H b = some (.tup xs) → H' b = some (.tup xs)
  frz : ∀ b o u, H b = some (.frz o u) → H' b = some (.frz o u)
theorem TK.refl (H : Hp) : TK H H := ⟨fun _ _ h => h, fun _ _ _ h => h⟩
theorem TK.trans {H H1 H2 : Hp} (a : TK H H1) (b : TK H1 H2) : TK H H2 := ⟨fun c x h => b.tup c x (a.tup c x h), fun c o u h => b.frz c o u (a.frz c o u h)⟩
theorem Same.tk {H H' : Hp} (s : Same H H') : TK H H' := ⟨fun b xs h => s b _ h, fun b o u h => s b _ h⟩
theorem KeepB.tk {r : Addr} {H H' : Hp} {xs : List V} (s : KeepB r H H') (h : H r = some (.lst xs)) : TK H H' :=
  ⟨fun b ys e => s b _ (ne_of e h (by intro z; cases z)) e, fun b o u e => s b _ (ne_of e h (by intro z; cases z)) e⟩
theorem TK.seqT {K : PySem.W.Frag} {H H' : Hp} {a : Addr} {xs : List V} (t : TK H H') (h : SqT K H a xs) : SqT K H' a xs := by
  rcases h with (h | ⟨o, h⟩) | h
  · exact .inl (.inl (t.tup _ _ h))
  · exact .inl (.inr ⟨o, t.frz _ _ _ h⟩)
  · exact .inr h
theorem TK.new {H : Hp} {p : Addr} {o : HO} (h : H p = none) : TK H (upd H p o) := Same.tk (Same.new h)
theorem TK.lst {H : Hp} {p : Addr} {xs : List V} {o : HO} (h : H p = some (.lst xs)) : TK H (upd H p o) := (KeepB.put (r := p)).tk h
theorem KeepB.new {r : Addr} {H : Hp} {p : Addr} {o : HO} (h : H p = none) : KeepB r H (upd H p o) := Same.keepB (Same.new h)
/-- a change at an object that the first heap does not know -/
theorem KeepB.fresh {r : Addr} {H H' : Hp} {p : Addr} {o : HO} (k : KeepB r H H') (h : H p = none) : KeepB r H (upd H' p o) := fun b u n e => by
  rw [upd_ne (ne_of_none e h)]
  exact k b u n e
/-- what the later heap does not know the earlier did not -/
theorem KeepB.back {r : Addr} {H H' : Hp} {p : Addr} (k : KeepB r H H') (h : H' p = none) (n : p ≠ r) : H p = none := by
  cases e : H p with
  | none => rfl
  | some o =>
    rw [k p o n e] at h
    cases h
theorem Same.fresh {H H' : Hp} {p : Addr} {o : HO} (k : Same H H') (h : H p = none) : Same H (upd H' p o) := fun b u e => by
  rw [upd_ne (ne_of_none e h)]
  exact k b u e
/-! ### immutable data -/
mutual
inductive Tp (K : PySem.W.Frag) (H : Hp) : V → PyData → Prop
  | non : Tp K H .non .none
  | bl (b : Bool) : Tp K H (.bl b) (.bool b)
  | int (i : Int) : Tp K H (.int i) (.int i)
  | str (x : Str) : Tp K H (.str x) (.str x)
  | tup {a : Addr} {xs : List V} {ds : List PyData} : SqT K H a xs → TpAll K H xs ds → Tp K H (.ref a) (.tuple ds)
inductive TpAll (K : PySem.W.Frag) (H : Hp) : List V → List PyData → Prop
  | nil : TpAll K H [] []
  | cons {v : V} {vs : List V} {d : PyData} {ds : List PyData} : Tp K H v d → TpAll K H vs ds → TpAll K H (v :: vs) (d :: ds)
end
section
variable {K : PySem.W.Frag} {H H' : Hp}
mutual
theorem Tp.mono (t : TK H H') : ∀ (d : PyData) (v : V), Tp K H v d → Tp K H' v d
  | .none, _, h => by cases h; exact .non
  | .bool b, _, h => by cases h; exact .bl b
  | .int i, _, h => by cases h; exact .int i
  | .str x, _, h => by cases h; exact .str x
  | .list ds, _, h => by cases h
  | .dict _, _, h => by cases h
  | .tuple ds, _, h => by
    cases h with
    | tup hs ha => exact .tup (t.seqT hs) (TpAll.mono t ds _ ha)
theorem TpAll.mono (t : TK H H') : ∀ (ds : List PyData) (vs : List V), TpAll K H vs ds → TpAll K H' vs ds
  | [], _, h => by cases h; exact .nil
  | d :: ds, _, h => by
    cases h with
    | cons h1 h2 => exact .cons (Tp.mono t d _ h1) (TpAll.mono t ds _ h2)
end
mutual
theorem Tp.dp : ∀ (d : PyData) (v : V), Tp K H v d → Dp K H v d
  | .none, _, h => by cases h; exact .non
  | .bool b, _, h => by cases h; exact .bl b
  | .int i, _, h => by cases h; exact .int i
  | .str x, _, h => by cases h; exact .str x
  | .list ds, _, h => by cases h
  | .dict _, _, h => by cases h
  | .tuple ds, _, h => by
    cases h with
    | tup hs ha => exact .tup hs (TpAll.dp ds _ ha)
theorem TpAll.dp : ∀ (ds : List PyData) (vs : List V), TpAll K H vs ds → DpAll K H vs ds
  | [], _, h => by cases h; exact .nil
  | d :: ds, _, h => by
    cases h with
    | cons h1 h2 => exact .cons (Tp.dp d _ h1) (TpAll.dp ds _ h2)
end
mutual
theorem Dp.mono (s : Same H H') : ∀ (d : PyData) (v : V), Dp K H v d → Dp K H' v d
  | .none, _, h => by cases h; exact .non
  | .bool b, _, h => by cases h; exact .bl b
  | .int i, _, h => by cases h; exact .int i
  | .str x, _, h => by cases h; exact .str x
  | .dict _, _, h => by cases h
  | .list ds, _, h => by
    cases h with
    | lst hs ha => exact .lst (s.seq hs) (DpAll.mono s ds _ ha)
  | .tuple ds, _, h => by
    cases h with
    | tup hs ha => exact .tup ((Same.tk s).seqT hs) (DpAll.mono s ds _ ha)
theorem DpAll.mono (s : Same H H') : ∀ (ds : List PyData) (vs : List V), DpAll K H vs ds → DpAll K H' vs ds
  | [], _, h => by cases h; exact .nil
  | d :: ds, _, h => by
    cases h with
    | cons h1 h2 => exact .cons (Dp.mono s d _ h1) (DpAll.mono s ds _ h2)
end
theorem TpAll.length : ∀ {vs : List V} {ds : List PyData}, TpAll K H vs ds → vs.length = ds.length
  | [], [], _ => rfl
  | _ :: _, [], h => by cases h
  | [], _ :: _, h => by cases h
  | v :: vs, d :: ds, h => by
    cases h with
    | cons h1 h2 =>
      show vs.length + 1 = ds.length + 1
      rw [TpAll.length h2]
theorem TpAll.get : ∀ {vs : List V} {ds : List PyData} {i : Nat} {d : PyData}, TpAll K H vs ds → ds[i]? = some d → ∃ v, vs[i]? = some v ∧ Tp K H v d
  | [], [], _, _, _, e => by simp at e
  | _ :: _, [], _, _, h, _ => by cases h
  | [], _ :: _, _, _, h, _ => by cases h
  | v :: vs, d :: ds, 0, _, h, e => by
    cases h with
    | cons h1 h2 =>
      have e : d = _ := Option.some.inj e
      subst e
      exact ⟨v, rfl, h1⟩
  | v :: vs, d :: ds, i + 1, _, h, e => by
    cases h with
    | cons h1 h2 => exact TpAll.get (i := i) h2 e
theorem TpAll.append : ∀ {vs ws : List V} {ds es : List PyData}, TpAll K H vs ds → TpAll K H ws es → TpAll K H (vs ++ ws) (ds ++ es)
  | [], _, [], _, _, h => h
  | _ :: _, _, [], _, h, _ => by cases h
  | [], _, _ :: _, _, h, _ => by cases h
  | v :: vs, _, d :: ds, _, h, h' => by
    cases h with
    | cons h1 h2 => exact .cons h1 (TpAll.append h2 h')
end
/-! ### the draws -/
/-- the script: frozen, or an object of the written part -/
def Scr (K : PySem.W.Frag) (H : Hp) (s : Addr) (ns : List Int) : Prop := (∃ o, H s = some (.frz o (.lst (ns.map V.int)))) ∨ ∃ (o : Obj) (its : Array Value) (n : Nat), K.lookup s = some o ∧ o.cls = .type "list" ∧ o.dict = none ∧ o.data = .seq its n ∧ its.size ≤ sizeLine ∧ Vals (ns.map V.int) its.toList
theorem Scr.sq {K : PySem.W.Frag} {H : Hp} {s : Addr} {ns : List Int} (h : Scr K H s ns) : SqL K H s (ns.map V.int) := by
  rcases h with ⟨o, h⟩ | h
  · exact .inl (.inr ⟨o, h⟩)
  · exact .inr h
theorem Scr.mono {K : PySem.W.Frag} {H H' : Hp} {s : Addr} {ns : List Int} (t : TK H H') (h : Scr K H s ns) : Scr K H' s ns := by
  rcases h with ⟨o, h⟩ | h
  · exact .inl ⟨o, t.frz _ _ _ h⟩
  · exact .inr h
theorem Scr.of {K : PySem.W.Frag} {H : Hp} {s : Addr} {ns : List Int} (o : Only H) (h : SqL K H s (ns.map V.int)) : Scr K H s ns := by
  rcases h with (h | ⟨u, h⟩) | h
  · rcases o s with z | ⟨u, xs, z⟩ <;> (rw [h] at z; cases z)
  · exact .inl ⟨u, h⟩
  · exact .inr h
/-- row: the script, the place in it, the mixed number, the rest of a great cell -/
def Row (K : PySem.W.Frag) (H : Hp) (r : Addr) : Prop := ∃ (s : Addr) (ns : List Int) (i m c : Int), H r = some (.lst [.ref s, .int i, .int m, .int c]) ∧ Scr K H s ns ∧ 0 ≤ i ∧ 0 ≤ m ∧ m < 2147483647 ∧ 0 ≤ c
theorem Row.lst {K : PySem.W.Frag} {H : Hp} {r : Addr} (h : Row K H r) : ∃ xs, H r = some (.lst xs) := by
  obtain ⟨s, ns, i, m, c, e, _⟩ := h
  exact ⟨_, e⟩
theorem Row.keep {K : PySem.W.Frag} {H H' : Hp} {r : Addr} (h : Row K H r) (t : TK H H') (e : H' r = H r) : Row K H' r := by
  obtain ⟨s, ns, i, m, c, e0, hs, q⟩ := h
  exact ⟨s, ns, i, m, c, e.trans e0, hs.mono t, q⟩
theorem Row.same {K : PySem.W.Frag} {H H' : Hp} {r : Addr} (h : Row K H r) (s : Same H H') : Row K H' r := by
  obtain ⟨xs, e⟩ := h.lst
  exact h.keep (Same.tk s) ((s _ _ e).trans e.symm)
theorem Row.new {K : PySem.W.Frag} {H : Hp} {r p : Addr} {o : HO} (h : Row K H r) (n : H p = none) : Row K (upd H p o) r := h.same (Same.new n)
theorem Row.ne {K : PySem.W.Frag} {H : Hp} {r p : Addr} (h : Row K H r) (n : H p = none) : p ≠ r := by
  obtain ⟨xs, e⟩ := h.lst
  exact (ne_of_none e n).symm
/-- another list changes -/
theorem Row.put {K : PySem.W.Frag} {H : Hp} {r p : Addr} {xs : List V} {o : HO} (h : Row K H r) (e : H p = some (.lst xs)) (n : p ≠ r) : Row K (upd H p o) r := h.keep (TK.lst e) (upd_ne n.symm)
theorem KeepB.row {K : PySem.W.Frag} {H H' : Hp} {r : Addr} (k : KeepB r H H') (h : Row K H r) : TK H H' := by
  obtain ⟨xs, e⟩ := h.lst
  exact k.tk e
def spTaken (K : PySem.W.Frag) : Sp := fun vs H Q _ => ∃ (r : Addr) (many : Int), vs = [.ref r, .int many] ∧ Row K H r ∧ 0 < many ∧ many < 2 ^ 250 ∧ ∀ (v : Int) (H' : Hp), 0 ≤ v → v < many → Row K H' r → KeepB r H H' → Q (.int v) H'
section
variable {X : Cx}
theorem CallR.imp {f : Value} {r r' : List V → Hp → VK → Prop} (h : CallR X f r) (i : ∀ xs H Q, r' xs H Q → r xs H Q) : CallR X f r' := fun pins s σ H xs us Q I rv q => h pins s σ H xs us Q I rv (i _ _ _ q)
theorem call_int_i : CallR X (.type "int") (fun xs H Q => ∃ i, xs = [.int i] ∧ Q (.int i) H) := CallR.imp call_int1 fun _ _ _ h => .inl h
theorem call_len_l : CallR X (.builtin "len") (fun xs H Q => ∃ p ys, xs = [.ref p] ∧ SqL X.K H p ys ∧ Q (.int ys.length) H) := CallR.imp call_len_seq fun _ _ _ ⟨p, ys, e, h, q⟩ => ⟨p, ys, e, .inl h, q⟩
theorem call_len_t : CallR X (.builtin "len") (fun xs H Q => ∃ p ys, xs = [.ref p] ∧ SqT X.K H p ys ∧ Q (.int ys.length) H) := CallR.imp call_len_seq fun _ _ _ ⟨p, ys, e, h, q⟩ => ⟨p, ys, e, .inr h, q⟩
theorem call_tuple_l : CallR X (.type "tuple") (fun xs H Q => ∃ p ys, xs = [.ref p] ∧ SqL X.K H p ys ∧ ∀ l, H l = none → Q (.ref l) (upd H l (.tup ys))) := CallR.imp call_tuple_of fun _ _ _ ⟨p, ys, e, h, q⟩ => ⟨p, ys, e, .inl ⟨h, q⟩⟩
theorem call_tuple_t : CallR X (.type "tuple") (fun xs H Q => ∃ p ys, xs = [.ref p] ∧ SqT X.K H p ys ∧ Q (.ref p) H) := CallR.imp call_tuple_of fun _ _ _ ⟨p, ys, e, h, q⟩ => ⟨p, ys, e, .inr ⟨h, q⟩⟩
end
section
variable {X : Cx} {x : Str} {pos : Pos}
theorem pe_gint {i : Int} (hg : Gl X x) (hm : ∃ t, X.mg x = some (.int i t)) (hd : (x == ("__debug__" : Str)) = false := by decide) : PE X (.Name x pos) (tC (.int i)) := by
  obtain ⟨t, h⟩ := hm
  exact pe_glob hg h ⟨t, rfl⟩ hd
theorem pe_gstr {y : Str} (hg : Gl X x) (hm : ∃ t, X.mg x = some (.str y t)) (hd : (x == ("__debug__" : Str)) = false := by decide) : PE X (.Name x pos) (tC (.str y)) := by
  obtain ⟨t, h⟩ := hm
  exact pe_glob hg h ⟨t, rfl⟩ hd
theorem pe_ty (n : String) (hg : Gl X x) (hm : X.mg x = none) (hv : bootBuiltins x = some (.type n)) (hn : x ≠ "__name__" := by decide) (hd : (x == ("__debug__" : Str)) = false := by decide) : PE X (.Name x pos) (tC (.ty n)) := pe_bltn hg hm hv rfl hn hd
/-- isinstance against a built-in class -/
def rIsN (K : PySem.W.Frag) : List V → Hp → VK → Prop := fun xs H Q => ∃ (y : V) (n : String) (t : String) (b : Bool), xs = [y, .ty n] ∧ TyX K H y (.type t) ∧ kitB t n = some b ∧ Q (.bl b) H
theorem call_isN : CallR X (.builtin "isinstance") (rIsN X.K) := CallR.imp call_isi fun _ _ _ ⟨y, n, t, b, e, h, k, q⟩ => ⟨y, .ty n, .type t, .type n, b, e, .ty n, h, kit_ty k, q⟩
/-- against two of them -/
def kitB2 (t m n : String) : Option Bool := match kitB t m with
  | some true => some true
  | some false => kitB t n
  | none => none
def rIsT2 (K : PySem.W.Frag) : List V → Hp → VK → Prop := fun xs H Q => ∃ (y : V) (p : Addr) (m n : String) (t : String) (b : Bool), xs = [y, .ref p] ∧ H p = some (.tup [.ty m, .ty n]) ∧ TyX K H y (.type t) ∧ kitB2 t m n = some b ∧ Q (.bl b) H
theorem kit2 {K : PySem.W.Frag} {t m n : String} {b : Bool} (h : kitB2 t m n = some b) : PySem.W.kitAny K (.type t) [.type m, .type n] = some b := by
  unfold kitB2 at h
  split at h
  · rename_i e
    cases h
    exact kitAny_cons (kit_ty e) (fun z => by cases z) (fun _ => rfl)
  · rename_i e
    refine kitAny_cons (kit_ty e) (fun _ => ?_) (fun z => by cases z)
    exact kitAny_cons (b := b) (kit_ty h) (fun z => by rw [z]; exact kitAny_nil) (fun z => z)
  · cases h
theorem call_isT2 : CallR X (.builtin "isinstance") (rIsT2 X.K) := CallR.imp call_isiT fun _ _ _ ⟨y, p, m, n, t, b, e, hp, h, k, q⟩ => ⟨y, p, [.ty m, .ty n], .type t, [.type m, .type n], b, e, hp, .cons (.ty m) (.cons (.ty n) .nil), h, kit2 k, q⟩
/-- s.index(c), where it is found -/
def rIndexIn : L2.St → V → List V → Hp → VK → Prop := fun _ x xs H Q => ∃ (a b : Str) (k : Nat), x = .str a ∧ xs = [.str b] ∧ Txt.index0 a b = some k ∧ Q (.int (k : Nat)) H
theorem mt_indexIn (hc : X.calm = true) : MtS X "str.index" rIndexIn := fun pins s σ H x xs v us Q I rx rs ⟨a, b, k, e1, e2, e3, q⟩ =>
  mt_indexX hc takes0 pins s σ H x xs v us Q I rx rs ⟨a, b, e1, e2, fun k' h => by rw [e3] at h; cases h; exact q, fun h => by rw [e3] at h; cases h⟩
end
section
variable {K : PySem.W.Frag} {H : Hp}
theorem tyx_tup {a : Addr} {xs : List V} (h : SqT K H a xs) : TyX K H (.ref a) (.type "tuple") := by
  rcases h with (h | ⟨o, h⟩) | ⟨o, its, n, e, c, _⟩
  · exact .base (.tup h)
  · exact .fTuple h
  · exact .kTuple e c
theorem tyx_lst {a : Addr} {xs : List V} (h : SqL K H a xs) : TyX K H (.ref a) (.type "list") := by
  rcases h with (h | ⟨o, h⟩) | ⟨o, its, n, e, c, _⟩
  · exact .base (.lst h)
  · exact .base (.frz h)
  · exact .kList e c
theorem Tp.tupI {v : V} {ds : List PyData} (h : Tp K H v (.tuple ds)) : ∃ (a : Addr) (xs : List V), v = .ref a ∧ SqT K H a xs ∧ TpAll K H xs ds := by
  cases h with
  | tup hs ha => exact ⟨_, _, rfl, hs, ha⟩
theorem Tp.intI {v : V} {i : Int} (h : Tp K H v (.int i)) : v = .int i := by cases h; rfl
theorem Tp.nonI {v : V} (h : Tp K H v .none) : v = .non := by cases h; rfl
theorem Tp.strI {v : V} {x : Str} (h : Tp K H v (.str x)) : v = .str x := by cases h; rfl
theorem Tp.blI {v : V} {b : Bool} (h : Tp K H v (.bool b)) : v = .bl b := by cases h; rfl
theorem TpAll.consI {vs : List V} {d : PyData} {ds : List PyData} (h : TpAll K H vs (d :: ds)) : ∃ v ws, vs = v :: ws ∧ Tp K H v d ∧ TpAll K H ws ds := by
  cases h with
  | cons h1 h2 => exact ⟨_, _, rfl, h1, h2⟩
theorem TpAll.nilI {vs : List V} (h : TpAll K H vs []) : vs = [] := by cases h; rfl
/-- three numbers -/
theorem Tp.int3 {v : V} {i j k : Int} (h : Tp K H v (.tuple [.int i, .int j, .int k])) : ∃ a, v = .ref a ∧ SqT K H a [.int i, .int j, .int k] := by
  obtain ⟨a, xs, rfl, hs, h⟩ := h.tupI
  obtain ⟨x, _, rfl, h1, h⟩ := h.consI
  obtain ⟨y, _, rfl, h2, h⟩ := h.consI
  obtain ⟨z, _, rfl, h3, h⟩ := h.consI
  rw [h1.intI, h2.intI, h3.intI, h.nilI] at hs
  exact ⟨a, rfl, hs⟩
end
theorem at0 {α : Type} {v : α} {r : List α} : atI (v :: r) (0 : Int) = some v := atI_nat (j := 0) rfl
theorem at1 {α : Type} {u v : α} {r : List α} : atI (u :: v :: r) (1 : Int) = some v := atI_nat (j := 1) rfl
theorem at2 {α : Type} {t u v : α} {r : List α} : atI (t :: u :: v :: r) (2 : Int) = some v := atI_nat (j := 2) rfl
theorem at3 {α : Type} {s t u v : α} {r : List α} : atI (s :: t :: u :: v :: r) (3 : Int) = some v := atI_nat (j := 3) rfl
theorem small_le {n : Nat} (h : n ≤ 1000) : n ≤ sizeLine := Nat.le_of_lt (small1000 h)
/-! ### answers read -/
theorem ne_tr {a b : Int} (h : (!decide (V.int a = V.int b)) = true) : a ≠ b := fun e => by
  rw [e, decide_eq_true rfl] at h
  cases h
theorem ne_fl {a b : Int} (h : ¬ (!decide (V.int a = V.int b)) = true) : a = b := by
  by_cases e : a = b
  · exact e
  · exact absurd (by rw [decide_eq_false (fun z => e (V.int.inj z))]; rfl) h
theorem eq_tr {a b : Int} (h : decide (V.int a = V.int b) = true) : a = b := V.int.inj (of_decide_eq_true h)
theorem eq_fl {a b : Int} (h : ¬ decide (V.int a = V.int b) = true) : a ≠ b := fun e => h (decide_eq_true (by rw [e]))
theorem d_fl {p : Prop} [Decidable p] (h : ¬ decide p = true) : ¬ p := fun q => h (decide_eq_true q)
theorem nd_tr {p : Prop} [Decidable p] (h : (!decide p) = true) : ¬ p := fun q => by
  rw [decide_eq_true q] at h
  cases h
theorem nd_fl {p : Prop} [Decidable p] (h : ¬ (!decide p) = true) : p := by
  by_cases e : p
  · exact e
  · exact absurd (by rw [decide_eq_false e]; rfl) h
theorem nb_tr {b : Bool} (h : (!b) = true) : b = false := by cases b <;> simp_all
theorem nb_fl {b : Bool} (h : ¬ (!b) = true) : b = true := by cases b <;> simp_all
theorem take_more {α : Type} {l : List α} {i : Nat} {x : α} (h : l[i]? = some x) : l.take (i + 1) = l.take i ++ [x] := by
  rw [List.take_add_one, h]
  rfl
/-! ### the rules that speak of the written part, with its letter -/
section
variable {X : Cx} {K : PySem.W.Frag}
theorem k_len_l (hK : X.K = K := by rfl) : CallR X (.builtin "len") (fun xs H Q => ∃ p ys, xs = [.ref p] ∧ SqL K H p ys ∧ Q (.int ys.length) H) := hK ▸ call_len_l
theorem k_len_t (hK : X.K = K := by rfl) : CallR X (.builtin "len") (fun xs H Q => ∃ p ys, xs = [.ref p] ∧ SqT K H p ys ∧ Q (.int ys.length) H) := hK ▸ call_len_t
theorem k_tuple_l (hK : X.K = K := by rfl) : CallR X (.type "tuple") (fun xs H Q => ∃ p ys, xs = [.ref p] ∧ SqL K H p ys ∧ ∀ l, H l = none → Q (.ref l) (upd H l (.tup ys))) := hK ▸ call_tuple_l
theorem k_tuple_t (hK : X.K = K := by rfl) : CallR X (.type "tuple") (fun xs H Q => ∃ p ys, xs = [.ref p] ∧ SqT K H p ys ∧ Q (.ref p) H) := hK ▸ call_tuple_t
theorem k_isN (hK : X.K = K := by rfl) : CallR X (.builtin "isinstance") (rIsN K) := hK ▸ call_isN
theorem k_isT2 (hK : X.K = K := by rfl) : CallR X (.builtin "isinstance") (rIsT2 K) := hK ▸ call_isT2
theorem k_all (hc : X.calm = true) (hK : X.K = K := by rfl) : CallR X (.builtin "all") (rAll K) := hK ▸ cr_all hc
theorem k_any (hc : X.calm = true) (hK : X.K = K := by rfl) : CallR X (.builtin "any") (rAny K) := hK ▸ cr_any hc
theorem k_sum (hc : X.calm = true) (hK : X.K = K := by rfl) : CallR X (.builtin "sum") (rSum K) := hK ▸ cr_sum hc
theorem k_max (hc : X.calm = true) (hK : X.K = K := by rfl) : CallR X (.builtin "max") (rMax K) := hK ▸ cr_max hc
theorem k_min (hc : X.calm = true) (hK : X.K = K := by rfl) : CallR X (.builtin "min") (rMin K) := hK ▸ cr_min hc
theorem k_ix_list (hK : X.K = K := by rfl) : IxR X (rIxL K) := hK ▸ ix_list
theorem k_ix_tup (hK : X.K = K := by rfl) : IxR X (rIxT K) := hK ▸ ix_tup
theorem k_len_seq (hK : X.K = K := by rfl) : CallR X (.builtin "len") (fun xs H Q => ∃ p ys, xs = [.ref p] ∧ (SqL K H p ys ∨ SqT K H p ys) ∧ Q (.int ys.length) H) := hK ▸ call_len_seq
theorem IxR.imp {r r' : R2} (h : IxR X r) (i : ∀ x y H Q, r' x y H Q → r x y H Q) : IxR X r' := fun a b pins s σ H x y v u Q I rx ry q e => h a b pins s σ H x y v u Q I rx ry (i _ _ _ _ q) e
/-- an item of a list or of a tuple -/
def rIxA (K : PySem.W.Frag) : R2 := fun x y H Q => ∃ p xs i v, x = .ref p ∧ y = .int i ∧ (SqL K H p xs ∨ SqT K H p xs) ∧ atI xs i = some v ∧ Q v H
theorem k_ix_seq (hK : X.K = K := by rfl) : IxR X (rIxA K) := hK ▸ IxR.imp ix_seq fun x y H Q ⟨p, xs, i, v, e1, e2, h, a, q⟩ => by
  rcases h with h | h
  · exact .inl ⟨p, xs, i, v, e1, e2, h, a, q⟩
  · exact .inr (.inl ⟨p, xs, i, v, e1, e2, h, a, q⟩)
theorem k_sl_list (hK : X.K = K := by rfl) : SlR X (rSlL K) := hK ▸ sl_list
theorem k_sl_tup (hK : X.K = K := by rfl) : SlR X (rSlT K) := hK ▸ sl_tup
theorem k_catA (hK : X.K = K := by rfl) : OpR X (binaryOp .Add) (rCatA K) := hK ▸ op_catA
theorem k_eqD (hu : X.A.units + 64 < cLine) (hK : X.K = K := by rfl) : OpR X (compareOp .Eq) (rEqD K) := hK ▸ op_eqD hu
theorem k_neD (hu : X.A.units + 64 < cLine) (hK : X.K = K := by rfl) : OpR X (compareOp .NotEq) (rNeD K) := hK ▸ op_neD hu
theorem k_pi_list {tg l : Expr} {tl : TE} (hl : PE X l tl) (hK : X.K = K := by rfl) : PI X tg l (iList K tl) := hK ▸ pi_list hl
theorem k_pi_tup {tg l : Expr} {tl : TE} (hl : PE X l tl) (hK : X.K = K := by rfl) : PI X tg l (iTup K tl) := hK ▸ pi_tup hl
theorem k_mt_join (hK : X.K = K := by rfl) : MtR X "str.join" (fun x xs H Q => ∃ a p, ∃ ys : List Str, x = .str a ∧ xs = [.ref p] ∧ (SqL K H p (ys.map V.str) ∨ SqT K H p (ys.map V.str)) ∧ (ys.map (·.length)).sum + ys.length * a.length ≤ 16777216 ∧ Q (.str (Txt.join a ys)) H) := hK ▸ mt_join
end
/-! ### own errors -/
/-- what the written part says of an error's class -/
structure ExcCls (K : PySem.W.Frag) (mg : Str → Option Value) (x : Str) (C : Addr) : Prop where
  gC : mg x = some (.ref C)
  oex : OexC K C
  xf : XfC K C
  ha : PySem.W.findIn K (.ref C) "__class__" = some (some (.builtin "object.__class__"))
  hn : PySem.W.specialIn K (.builtin "object.__class__") "__get__" = some (some (.builtin "getset_descriptor.__get__"))
  ht : PySem.W.takesIn K (.builtin "object.__class__") = some true
  hm : PySem.W.mroIn K C (.type "object") = some true
/-- the error's own dict -/
def DOk (d : Option Addr) (H : Hp) : Prop := d = none ∨ ∃ dd fs, d = some dd ∧ H dd = some (.xd fs)
section
variable {X : Cx} {a : Addr} {oe : Obj} {cls : Value} {d : Option Addr} {pn : List (Addr × Obj)}
def rIsEd (K : PySem.W.Frag) (mg : Str → Option Value) (a : Addr) (cls : Value) (d : Option Addr) : List V → Hp → VK → Prop := fun xs H Q => ∃ (C D : Addr) (x : Str) (b : Bool), xs = [.ref a, .ref D] ∧ cls = .ref C ∧ ExcCls K mg x C ∧ DOk d H ∧ PySem.W.kitOne K (.ref C) (.ref D) = some b ∧ Q (.bl b) H
theorem oex_cls {K : PySem.W.Frag} {C : Addr} (T : OexC K C) : (PySem.W.clsIn K C).isSome = true := by
  obtain ⟨nm, q, N, bs, bm, sn, sub, ab, col, dd, k0, k1, k2, k3, k5, hC, hbm⟩ := T.cls
  unfold PySem.W.clsIn
  rw [hC] <;> rfl
theorem inst_exc {pins : List (Addr × Obj)} {σ : L2.St} {H : Hp} {s : Shared} {C : Addr} (I : Inv (X.suite a ((a, oe) :: pn)) pins σ H s) (hz : Zc (.ref C) d oe) (hf : ∃ vs, oe.data = .fields vs) (hd : DOk d H) : ∃ od, PySem.W.InstAt s.heap a oe C od := by
  obtain ⟨hget, _⟩ := I.pin (a, oe) (List.mem_append_left _ List.mem_cons_self)
  obtain ⟨vs, hv⟩ := hf
  rcases hd with rfl | ⟨dd, fs, rfl, ea⟩
  · exact ⟨none, hget, hz.1, by unfold PySem.W.notCls; rw [hv] <;> rfl, by rw [hz.2]; trivial⟩
  · have hx : ObjOk X.prog X.w H s.heap dd (.xd fs) := I.hok dd _ ea
    obtain ⟨mA, hns, hr⟩ := hx
    obtain ⟨od, ho, hl⟩ := lookIn_ns hns
    exact ⟨some od, hget, hz.1, by unfold PySem.W.notCls; rw [hv] <;> rfl, by rw [hz.2]; exact ho⟩
theorem call_isEd (hz : Zc cls d oe) (hf : ∃ vs, oe.data = .fields vs) : CallR (X.suite a ((a, oe) :: pn)) (.builtin "isinstance") (rIsEd X.K X.mg a cls d) := by
  intro pins s σ H xs us Q I r h
  obtain ⟨C, D, x, b, rfl, rfl, T, hd, e, q⟩ := h
  obtain ⟨od, J⟩ := inst_exc I hz hf hd
  cases r with
  | cons rx rr =>
    cases rr with
    | cons rt rr =>
      cases rr
      cases rx
      cases rt
      exact PySem.W.kia_one (PySem.W.kitx_exc (oex_cls T.oex) T.xf.ga T.xf.gg T.xf.exC T.ha T.hn T.ht T.hm) I.kIn J e (fun z => nomatch z) fun tk => ⟨.bl b, H, I.tok tk, rfl, q⟩
end
/-! ### an error with one field, made by its __init__ -/
def spInit1 (K : PySem.W.Frag) (C : Addr) (f : Str) : Sp := fun vs H Q _ => ∃ (a : Addr) (y : V), vs = [.ref a, y] ∧ H a = some (exo a C none) ∧ ∀ dx, H dx = none → dx ≠ a → Q .non (upd (upd H dx (exd dx [(f, y)])) a (exo a C (some dx)))
/-- the __init__ of the class at C stands -/
structure ExcInit1 (P : Program) (w : World) (K : PySem.W.Frag) (mg : Str → Option Value) (base : Heap) (C : Addr) (f : Str) : Prop where
  no : PySem.W.findIn K (.ref C) f = some none
  init : ∃ (fI : Addr) (fd : FuncData) (ps : List Str), PySem.W.findIn K (.ref C) "__init__" = some (some (.ref fI)) ∧ PySem.W.typeIn K (.ref fI) = some (.type "function") ∧ FnOk P w K mg base CX0 1 fI fd ps (spInit1 K C f) ∧ Binds K fd ps []
theorem raise1 {K : PySem.W.Frag} {C : Addr} {f : Str} {H1 : Hp} {y : V} {Q : XK} (q : ∀ d H', H1 d = none → Same H1 H' → H' d = some (.xd [(f, y)]) → Q (.ref C) (some d) H') :
    ∀ a, H1 a = none → spInit1 K C f (.ref a :: ([y] ++ [])) (upd H1 a (exo a C none)) (fun v H2 => v = .non ∧ ∃ (d : Addr) (fs : List (Str × V)), H2 a = some (exo a C (some d)) ∧ H2 d = some (exd d fs) ∧ H1 d = none ∧ Q (.ref C) (some d) (upd (del H2 a) d (.xd fs))) (fun _ _ _ => False) := fun a na => by
  refine ⟨a, y, rfl, upd_same, fun dx nx ne => ⟨rfl, dx, [(f, y)], upd_same, ?_, ?_, ?_⟩⟩
  · rw [upd_ne ne, upd_same]
  · rw [upd_ne ne] at nx
    exact nx
  · have nx1 : H1 dx = none := by
      rw [upd_ne ne] at nx
      exact nx
    refine q dx _ nx1 (fun b o hb => ?_) upd_same
    have h1 : b ≠ dx := ne_of_none hb nx1
    have h2 : b ≠ a := ne_of_none hb na
    rw [upd_ne h1, del_ne h2, upd_ne h2, upd_ne h1, upd_ne h2]
    exact hb
section
variable {X : Cx} {C : Addr} {f x : Str} {W : WX} {ta : TA} {e : Expr} {p pos pos2 : Pos} {k : Nat}
theorem ps_raise1 (hc : X.calm = true) (tk : Takes X W) (T : ExcCls X.K X.mg x C) (F : ExcInit1 X.prog X.w X.K X.mg X.base C f) (hr : Room k X.A) (hk : 2 ≤ k) (ha : PA X [e] ta) (hg : Gl X x := by rfl) (hdb : (x == ("__debug__" : Str)) = false := by decide)
    (he : starEach (e :: []) X.env = (false, eval e X.env) :: starEach [] X.env := by rfl) (hpl : (backTo pos (starEach [] X.env)).any (·.1) = false := by rfl) :
    PS X (.Raise (some (.Call (.Name x p) [e] [] pos)) none pos2) (fun _ σ H => tMkO C (spInit1 X.K C f) [] ta σ H fun cls d H' => W cls d σ H') := by
  obtain ⟨fI, fd, ps, iC, tI, F1, hb⟩ := F.init
  exact ps_raise hc tk (pmk_oex (dvs := []) T.oex iC tI F1 (hr.mono hk) hb .nil pass0 hg T.gC ha hdb he hpl)
end
/-! ### defs that may raise -/
section
variable {P : Program} {w : World} {K : PySem.W.Frag} {mg : Str → Option Value} {base : Heap}
theorem DefAt.calX {x : Str} {st : Stmt} {N ps : List Str} {k : Nat} {sp : Sp} (D : DefAt K mg x st ps) (S : FnScope N ps (defScope st)) (len : ∀ vs H Q E, sp vs H Q E → vs.length = ps.length)
    (hbody : ∀ (f : Addr) (cdv : Value) (A : Around) (outer : List Env) (s : Shared) (H : Hp) (vs : List V) (Q : VK) (E : XK), Room k (A.deeper (envOfC x (defScope st) s.heap.objs.size f cdv)) → sp vs H Q E →
      ∃ t, PSs (cxOf (L2.CX P w) P w K mg base N x (defScope st) f cdv A outer s H E) (defBody st) t ∧ t { nx := fun _ H' => Q .non H', rt := Q } (start N vs) H) : Cal P w K mg base (L2.CX P w) x (k + 1) ps sp := by
  obtain ⟨f, fd, F, m, b⟩ := D.ex
  exact ⟨f, fd, F.okX S len (hbody f), m, F.kp, b⟩
end
section
variable {X : Cx} {k j : Nat} {ps : List Str} {sp : Sp} {x : Str} {p pos : Pos} {e : Expr} {es : List Expr} {t : TA} {W : WX}
/-- a call of a def that may raise: what it lets out is wished for here -/
theorem pe_ownS (C : Cal X.prog X.w X.K X.mg X.base (L2.CX X.prog X.w) x k ps sp) (tk : Takes X W) (hr : Room j X.A) (hk : k ≤ j) (ha : PA X (e :: es) t) (hg : Gl X x := by rfl) (hdb : (x == ("__debug__" : Str)) = false := by decide)
    (he : starEach (e :: es) X.env = (false, eval e X.env) :: starEach es X.env := by rfl) (hpl : (backTo pos (starEach es X.env)).any (·.1) = false := by rfl) : PE X (.Call (.Name x p) (e :: es) [] pos) (tCallS sp (WE W) t) := by
  obtain ⟨f, fd, F, m, kp, b⟩ := C.ex
  exact pe_callS F (hr.mono hk) hg m kp b (fun σ => passAt tk σ) ha hdb he hpl
end
section
variable {X : Cx} {k j : Nat} {ps : List Str} {sp : Sp} {x : Str} {p pos : Pos} {e : Expr} {es : List Expr} {t : TA}
/-- a call of such a def where it raises nothing -/
theorem pe_ownL (C : Cal X.prog X.w X.K X.mg X.base (L2.CX X.prog X.w) x k ps sp) (hr : Room j X.A) (hk : k ≤ j) (ha : PA X (e :: es) t) (hg : Gl X x := by rfl) (hdb : (x == ("__debug__" : Str)) = false := by decide)
    (he : starEach (e :: es) X.env = (false, eval e X.env) :: starEach es X.env := by rfl) (hpl : (backTo pos (starEach es X.env)).any (·.1) = false := by rfl) : PE X (.Call (.Name x p) (e :: es) [] pos) (tCall sp [] E0 t) := by
  obtain ⟨f, fd, F, m, kp, b⟩ := C.ex
  exact pe_call F (hr.mono hk) hg m kp b .nil passL ha hdb he hpl
end
/-! ### one step at a time -/
theorem asg_lst {t : TA} {g : TG} {D : Ends} {σ : L2.St} {H : Hp} (h : t σ H (fun xs H1 => xs.length ≤ sizeLine ∧ ∀ p, H1 p = none → g (.ref p) σ (upd H1 p (.lst xs)) D.nx)) : tAsg (tLst t) g D σ H := h
theorem asg_op {r : R2} {i : Nat} {v : V} {t : TA} {g : TG} {D : Ends} {σ : L2.St} {H : Hp} (e : σ[i]? = some (some v)) (h : t σ H (fun xs H1 => xs.length ≤ sizeLine ∧ ∀ p, H1 p = none → r v (.ref p) (upd H1 p (.lst xs)) fun z H3 => g z σ H3 D.nx)) : tAsg (tOp r (tVar i) (tLst t)) g D σ H := ⟨v, e, h⟩
theorem seq_of {t u : TS} {D : Ends} {σ : L2.St} {H : Hp} (h : t { D with nx := u D } σ H) : tSeq t u D σ H := h
theorem next_of {D : Ends} {σ : L2.St} {H : Hp} (h : D.nx σ H) : tNext D σ H := h
theorem if_not {A B : Prop} (h : B) : if (!true) = true then A else B := h
/-! ### lists of pairs, a text and a number -/
/-- an expression that gives the text s, laying things at most -/
def Evs (ta : TE) (s : Str) : Prop := ∀ σ H (Q : VK), (∀ H', Same H H' → Q (.str s) H') → ta σ H Q
theorem evs_c {s : Str} : Evs (tC (.str s)) s := fun σ H Q q => q H (Same.refl H)
def tPairs : List (TE × V) → TA
  | [] => tNil
  | p :: r => tCons (tTup (tCons p.1 (tCons (tC p.2) tNil))) (tPairs r)
abbrev PairsAt (H : Hp) : List Addr → List (Str × V) → Prop := Paired fun a q => H a = some (.tup [.str q.1, q.2])
theorem PairsAt.same {H H' : Hp} (s : Same H H') : ∀ {as : List Addr} {qs : List (Str × V)}, PairsAt H as qs → PairsAt H' as qs
  | _, _, .nil => .nil
  | _, _, .cons h r => .cons (s _ _ h) (PairsAt.same s r)
theorem PairsAt.app {H : Hp} : ∀ {as bs : List Addr} {qs rs : List (Str × V)}, PairsAt H as qs → PairsAt H bs rs → PairsAt H (as ++ bs) (qs ++ rs)
  | _, _, _, _, .nil, h => h
  | _, _, _, _, .cons h r, h' => .cons h (PairsAt.app r h')
theorem PairsAt.get {H : Hp} : ∀ {as : List Addr} {qs : List (Str × V)} {i : Nat} {a : Addr}, PairsAt H as qs → as[i]? = some a → ∃ q, qs[i]? = some q ∧ H a = some (.tup [.str q.1, q.2])
  | _, _, _, _, .nil, e => by simp at e
  | _, _, 0, _, .cons h r, e => by
    have e := Option.some.inj e
    subst e
    exact ⟨_, rfl, h⟩
  | _, _, i + 1, _, .cons h r, e => PairsAt.get (i := i) r e
theorem pairs_run : ∀ {ps : List (TE × V)} {qs : List (Str × V)}, Paired (fun p q => Evs p.1 q.1 ∧ p.2 = q.2) ps qs → ∀ (σ : L2.St) (H : Hp) (Q : List V → Hp → Prop), (∀ as H', Same H H' → PairsAt H' as qs → Q (as.map V.ref) H') → tPairs ps σ H Q
  | _, _, .nil, σ, H, Q, q => q [] H (Same.refl H) .nil
  | _, _, @Paired.cons _ _ _ p w ps qs h r, σ, H, Q, q => by
    obtain ⟨h1, h2⟩ := h
    refine h1 σ H _ fun H1 s1 => ?_
    refine ⟨Nat.le_of_ble_eq_true rfl, fun a na => ?_⟩
    refine pairs_run r σ _ _ fun as H2 s2 hp => ?_
    refine q (a :: as) H2 (Same.trans (Same.trans s1 (Same.new na)) s2) (.cons ?_ hp)
    rw [← h2]
    exact s2 _ _ upd_same
theorem rows_first {ps : List (TE × V)} {qs : List (Str × V)} {i : Nat} {D : Ends} {σ : L2.St} {H : Hp} (hp : Paired (fun p q => Evs p.1 q.1 ∧ p.2 = q.2) ps qs) (hl : qs.length ≤ 1000)
    (k : ∀ (as : List Addr) (R : Addr) (H' : Hp), Same H H' → PairsAt H' as qs → H' R = some (.lst (as.map V.ref)) → as.length = qs.length → D.nx (σ.set i (some (.ref R))) H') : tAsg (tLst (tPairs ps)) (gName i) D σ H := by
  refine pairs_run hp σ H _ fun as H1 s1 pa => ?_
  have la : as.length = qs.length := Paired.length pa
  refine ⟨small_le (by rw [List.length_map]; omega), fun R nR => ?_⟩
  exact k as R _ (Same.trans s1 (Same.new nR)) (PairsAt.same (Same.new nR) pa) upd_same la
theorem rows_step {ps : List (TE × V)} {qs qs' : List (Str × V)} {i : Nat} {D : Ends} {σ : L2.St} {H : Hp} {R : Addr} {as : List Addr} (hp : Paired (fun p q => Evs p.1 q.1 ∧ p.2 = q.2) ps qs') (hR : H R = some (.lst (as.map V.ref))) (pa : PairsAt H as qs)
    (hs : σ[i]? = some (some (.ref R))) (hl : as.length + qs'.length ≤ 1000)
    (k : ∀ (as' : List Addr) (R' : Addr) (H' : Hp), Same H H' → PairsAt H' as' (qs ++ qs') → H' R' = some (.lst (as'.map V.ref)) → as'.length = as.length + qs'.length → D.nx (σ.set i (some (.ref R'))) H') : tAsg (tOp rCat (tVar i) (tLst (tPairs ps))) (gName i) D σ H := by
  refine ⟨_, hs, pairs_run hp σ H _ fun bs H1 s1 pb => ?_⟩
  have lb : bs.length = qs'.length := Paired.length pb
  refine ⟨small_le (by rw [List.length_map]; omega), fun B nB => ?_⟩
  refine ⟨R, B, as.map V.ref, bs.map V.ref, rfl, rfl, Same.new nB _ _ (s1 _ _ hR), upd_same, small_le (by rw [List.length_map, List.length_map]; omega), fun R' nR' => ?_⟩
  have s2 : Same H1 (upd (upd H1 B (.lst (bs.map V.ref))) R' (.lst (as.map V.ref ++ bs.map V.ref))) := Same.trans (Same.new nB) (Same.new nR')
  refine k (as ++ bs) R' _ (Same.trans s1 s2) (PairsAt.app (PairsAt.same (Same.trans s1 s2) pa) (PairsAt.same s2 pb)) (by rw [upd_same, List.map_append]) (by rw [List.length_append, lb])
/-! ### __init__: self.f = f -/
/-- the class's __init__, as it stands -/
structure MetAt (K : PySem.W.Frag) (C : Addr) (m qual : Str) (st : Stmt) (ps : List Str) : Prop where
  ex : ∃ (f : Addr) (fd : FuncData), PySem.W.findIn K (.ref C) m = some (some (.ref f)) ∧ PySem.W.typeIn K (.ref f) = some (.type "function") ∧ Fun K m qual st f fd ∧ Binds K fd ps []
/-! ### enumerate over a tuple -/
theorem enNewB {v : Value} {ob : Obj} {Hh : Heap → Prop} (B : Begins v ob Hh) :
    Meets (Builtin.«enumerate.__new__» ⟨[.type "enumerate", v], []⟩) (fun _ R z => Hh z.heap ∧
      R (.ok (.ret (.ref (z.heap.push ob).objs.size))) { z with heap := (z.heap.push ob).push { cls := .type "enumerate", data := .fields #[.none, .bool false, .ref z.heap.objs.size, rawInt 0, .none, .none] } }) :=
  .of_wp fun prog w A R z hz => by
    obtain ⟨hp, gs, dr, tk, os⟩ := z
    obtain ⟨hB, fin⟩ := hz
    have hsub := sub_enumerate
    have begin1 : ∀ {A' : Around} {E : Value → Shared → Prop} {Q : Value → Shared → Prop}, Q (.ref hp.objs.size) ⟨hp.push ob, gs, dr, tk, os⟩ → wpAny (model prog w) A' (pyIter v) Q E ⟨hp, gs, dr, tk, os⟩ :=
      fun q => B.iter prog w _ _ ⟨hp, gs, dr, tk, os⟩ _ hB q
    wp_walk using begin1
    refine wpAny_stack_any fun _ => wpAny_pure ?_
    split
    · rename_i c _ _ _ _ _
      cases (c == Value.type "enumerate") <;> (wp_walk using begin1; exact ⟨_, rfl, fin⟩)
    · wp_walk using begin1
      exact ⟨_, rfl, fin⟩
theorem enCallB {prog : Program} {w : World} {A : Around} {E : Value → Shared → Prop} {z : Shared} {v : Value} {ob : Obj} {Hh : Heap → Prop} {Q : Value → Shared → Prop} (B : Begins v ob Hh) (hB : Hh z.heap)
    (fin : ∀ h', IsEnum h' (z.heap.objs.size + 1) z.heap.objs.size 0 .none → h'.get? z.heap.objs.size = some ob →
      (∀ b o, z.heap.get? b = some o → h'.get? b = some o) → Q (.ref (z.heap.objs.size + 1)) { z with heap := h' }) :
    wpAny (model prog w) A (call (.type "enumerate") [v]) Q E z := by
  refine callType_new F.called_enumerate (by decide) (F.typeCall_enumerate_1 _) (F.newCall_enumerate_1 _) (fun obj => F.args_object_init_2 obj _) F.entry_enumerate_new (enNewB B) ⟨hB, ?_⟩
  have sz : (z.heap.push ob).objs.size = z.heap.objs.size + 1 := Heap.size_push ..
  have top := Heap.get?_push_size (z.heap.push ob) (o := { cls := .type "enumerate", data := .fields #[.none, .bool false, .ref z.heap.objs.size, rawInt 0, .none, .none] }) rfl
  rw [sz] at top
  show _ ∧ _
  rw [sz]
  exact ⟨⟨_, top, rfl⟩, fin _ top (Heap.get?_push_of_some _ (Heap.get?_push_size _ B.free)) fun b o x => Heap.get?_push_of_some _ (Heap.get?_push_of_some _ x)⟩

/-- the tuple at a, each item with its count in a pair of its own -/
def ItEn (K : PySem.W.Frag) (a : Addr) : It where
  go i H := ∃ (xs : List V) (x : V), SqT K H a xs ∧ xs[i]? = some x
  yld i H v H' := ∃ T x, v = .ref T ∧ H T = none ∧ H' = upd H T (.tup [.int (i : Nat), x]) ∧ ∀ xs, SqT K H a xs → xs[i]? = some x
  stop i H := ∃ xs : List V, SqT K H a xs ∧ xs.length ≤ i
theorem turnEn {P : Program} {w : World} {K : PySem.W.Frag} {elts : List Expr} {kk : Nat} {tpos : Pos} (a e it : Addr) :
    Turn P w K (.Tuple elts kk tpos) (ItEn K a) [e, it] e (fun i h => (∃ old, IsEnum h e it ((i : Nat) : Int) old) ∧ h.IsTupleIter it a i ∧ e ≠ it) where
  mem := List.mem_cons_self
  obj i h st b hb := by
    obtain ⟨⟨old, he⟩, ⟨o, ho, hc, hd⟩, _⟩ := st
    rcases List.mem_cons.mp hb with rfl | hb
    · exact ⟨_, he, fun v q => nomatch q⟩
    · cases List.mem_singleton.mp hb
      exact ⟨o, ho, fun v q => by rw [hd] at q; cases q⟩
  keep i h h' st k := by
    obtain ⟨⟨old, he⟩, hi, hne⟩ := st
    exact ⟨⟨old, k e List.mem_cons_self _ he⟩, hi.at fun o q => k it (List.mem_cons_of_mem _ List.mem_cons_self) o q, hne⟩
  item := by
    intro X hP hw hK hc i pins s σ H E I hf st hg
    subst hP hw hK
    obtain ⟨⟨old, he⟩, hit, hne⟩ := st
    obtain ⟨xs, x, hq, hx⟩ := hg
    obtain ⟨its, rv, p, hz⟩ := I.tuple hq
    obtain ⟨u, hu, ru⟩ := rv.get hx
    have ht : s.heap.IsTuple a its.toArray := p
    have tof : it ∈ [e, it] := List.mem_cons_of_mem _ List.mem_cons_self
    have le : e < s.heap.objs.size := Heap.lt_size he
    have li : it < s.heap.objs.size := by obtain ⟨_, q, _⟩ := hit; exact Heap.lt_size q
    have ane : a ≠ it := fun z => by
      obtain ⟨o1, g1, c1, _⟩ := hit
      obtain ⟨o2, g2, c2, _⟩ := ht
      rw [z, g1] at g2
      cases g2
      rw [c1] at c2
      exact absurd c2 (by decide)
    have ane2 : a ≠ e := fun z => by
      obtain ⟨o2, g2, c2, _⟩ := ht
      rw [z, he] at g2
      cases g2
      exact absurd (show Value.type "enumerate" = Value.type "tuple" from c2) (by decide)
    have D := Draws.tuple (prog := X.prog) (w := X.w) (A := X.A.in1) (I.ok.hd hc) it a ane its.toArray
    have hlt : i < its.toArray.size := by
      rw [List.size_toArray]
      exact (List.getElem?_eq_some_iff.mp hu).1
    refine wpAny_pyNext_enum_itemD D he ⟨hit, ht⟩ hlt hne (fun z => ?_) fun u2 h' tk hP ho st' hT hsz hk => ?_
    · rcases List.mem_cons.mp z with z | z
      · exact hne z
      · exact ane2 (List.mem_singleton.mp z).symm
    have eu : u2 = u := by
      have q : its.toArray[i]? = some u2 := hP
      rw [List.getElem?_toArray, hu] at q
      exact (Option.some.inj q).symm
    subst eu
    refine ⟨_, rfl, wpAny_letOwnedTupleGo_enum (s := { s with heap := h', toks := tk + 1 }) ho fun h2 he2 sb => ?_⟩
    have gT : h2.get? s.heap.objs.size = some { cls := .type "tuple", data := .seq #[.int i tk, u2] } := (sb.2 _ (Nat.ne_of_gt le)).trans hT
    have okT : ObjOk X.prog X.w (upd H s.heap.objs.size (.tup [.int (i : Nat), x])) h2 s.heap.objs.size (.tup [.int (i : Nat), x]) :=
      ⟨by show 2 ≤ sizeLine; decide, [.int i tk, u2], .cons ⟨_, rfl⟩ (.cons ru .nil), ⟨_, gT, rfl, _, rfl⟩⟩
    have J : Inv X pins σ (upd H s.heap.objs.size (.tup [.int (i : Nat), x])) { s with heap := h2, toks := tk + 1 } := by
      refine I.turnedNew (ch := [e, it]) (fun b ob hb q => ?_) hf (Nat.le_refl _) okT
      have b1 : b ≠ e := fun z => hb (z ▸ List.mem_cons_self)
      have b2 : b ≠ it := fun z => hb (z ▸ tof)
      exact (sb.2 b b1).trans (hk b ob b1 b2 q)
    refine ⟨.ref s.heap.objs.size, _, J, rfl, ⟨_, x, rfl, I.hok.fresh (Nat.le_refl _), rfl, fun ys hy => ?_⟩, ⟨⟨u2, ?_⟩, st'.1.at fun o q => (sb.2 it (Ne.symm hne)).trans q, hne⟩, fun b hb => ?_⟩
    · rw [I.tuple_inj hy hq]
      exact hx
    · have e1 : ((i + 1 : Nat) : Int) = (i : Int) + 1 := Int.natCast_succ i
      rw [e1]
      exact he2
    · have lb : b < s.heap.objs.size := by
        rcases List.mem_cons.mp hb with z | z
        · exact z ▸ le
        · exact List.mem_singleton.mp z ▸ li
      rw [upd_ne (Nat.ne_of_lt lb)]
      exact (hf b hb).1
  done := by
    intro X hP hw hK hc i pins s σ H E I hf st hg
    subst hP hw hK
    obtain ⟨⟨old, he⟩, hit, hne⟩ := st
    obtain ⟨xs, hq, hx⟩ := hg
    obtain ⟨its, rv, p, hz⟩ := I.tuple hq
    have ht : s.heap.IsTuple a its.toArray := p
    have fit := hf it (List.mem_cons_of_mem _ List.mem_cons_self)
    have hT : s.TypeIs (.ref e) "enumerate" := ⟨_, he, rfl⟩
    have none1 : its.toArray[i]? = none := by
      have := rv.length
      rw [List.getElem?_toArray]
      exact List.getElem?_eq_none (by omega)
    unfold pyNext
    refine wpAny_bind (wpAny_attempt (wpAny_callSpecial?_slot (name := Str.ofString "__next__") hT F.slot_enumerate_next (wpAny_call_entry F.slot_enumerate_next hT F.entry_enumerate_next ?_ (F.args_enumerate_next_1 _))))
    show wpAny _ _ (field (.ref e) 2 >>= _) _ _ _
    refine wpAny_bind (wpAny_field he rfl (x := .ref it) rfl ?_)
    refine wpAny_bind (wpAny_nextOf_tuple_end (I.ok.hd hc) hit ht none1 fun h2 x2 eb ⟨ox, hox, hcx⟩ => ?_)
    refine wpAny_bind (wpAny_isInstance (T := "StopIteration") (b := true) ⟨ox, hox, hcx⟩ isSubtype_stop ?_)
    exact wpAny_pure ⟨rfl, I.turned (t' := s.toks) (fun b o hb q => eb b o hb q) fit.1 fit.2.1 fit.2.2.2.1 fit.2.2.2.2.1 fit.2.2.2.2.2⟩
  self A i s Q E st h := let ⟨⟨_, he⟩, _⟩ := st; wpAny_pyIter_enum he h
def iEnT (K : PySem.W.Frag) (ta : TA) : TI := fun σ H R => ta σ H fun vs H1 => ∃ a xs, vs = [.ref a] ∧ SqT K H1 a xs ∧ R (ItEn K a) H1
theorem pi_enT {X : Cx} {e : Expr} {ta : TA} {p pos tpos : Pos} {elts : List Expr} {kk : Nat} (hg : Gl X "enumerate") (hm : X.mg "enumerate" = none) (ha : PA X [e] ta) (hs : starEach [e] X.env = [(false, eval e X.env)] := by rfl) :
    PI X (.Tuple elts kk tpos) (.Call (.Name "enumerate" p) [e] [] pos) (iEnT X.K ta) := by
  refine ⟨fun pins s σ H R I h => ?_⟩
  refine Call_ (ld_blt I hg hm boot_enumerate (PyProof.Rows.callWith_type1 (thn (ha.run pos pins s σ H _ I h) fun us s1 ⟨vs, H1, I1, r1, q1⟩ => ?_) hs rfl))
  obtain ⟨a, xs, rfl, hq, q⟩ := q1
  obtain ⟨u, rfl, ru⟩ := vals1 r1
  obtain rfl : u = Value.ref a := ru
  obtain ⟨its, rv, p', hz⟩ := I1.tuple hq
  refine enCallB (begins_tuple a its.toArray) p' fun h' he hit hk => wpAny_pyIter_enum he ?_
  have I2 : Inv X pins σ H1 { s1 with heap := h' } := I1.kept (t' := s1.toks) hk
  refine ⟨s1.heap.objs.size + 1, [s1.heap.objs.size + 1, s1.heap.objs.size], _, _, H1, rfl, I2, turnEn a (s1.heap.objs.size + 1) s1.heap.objs.size, ⟨⟨.none, he⟩, ⟨_, hit, rfl, rfl⟩, Nat.succ_ne_self _⟩, fun b hb => ?_, q⟩
  have up : s1.heap.objs.size ≤ b := by
    rcases List.mem_cons.mp hb with z | z
    · rw [z]
      exact Nat.le_succ _
    · rw [List.mem_singleton.mp z]
      exact Nat.le_refl _
  exact I1.fpOk up (I1.hok.fresh up)
theorem walkEn {K : PySem.W.Frag} {a : Addr} {xs : List V} : Walk (ItEn K a) xs.length (fun H => SqT K H a xs) (YPair (fun i => some (.int (i : Nat))) (fun i => xs[i]?)) where
  goes i _ hi q := ⟨xs, xs[i], q, List.getElem?_eq_getElem hi⟩
  stops _ q := ⟨xs, q, Nat.le_refl _⟩
  yields i H v H' _ q y := by
    obtain ⟨T, x, h1, h2, h3, h4⟩ := y
    exact ⟨T, .int (i : Nat), x, h1, h2, h3, rfl, h4 xs q⟩
/-! ### a dict whose keys are tuples, made by a comprehension -/
theorem dsetT {X : Cx} {pins : List (Addr × Obj)} {σ : L2.St} {H : Hp} {z : Shared} {E : Value → Shared → Prop} {D b : Addr} {kvs : List (List Key × V)} {k : List Key} {v : V} {r : Value} {Q : Unit → Shared → Prop}
    (room : X.A.units < cLine) (I : Inv X pins σ H z) (hD : H D = some (.dT kvs)) (hb : H b = some (.tup (k.map kV))) (lt : kvs.length < sizeLine) (rv : RelV v r)
    (fin : ∀ z', Inv X pins σ (upd H D (.dT (putK kvs k v))) z' → Q () z') : wpAny (model X.prog X.w) X.A (dictSet D (.ref b) r) Q E z := by
  obtain ⟨_, hs, xs, kt, dd⟩ := dt_of I.hok hD
  have small : xs.length ≤ sizeLine := by
    rw [← Paired.length kt]
    omega
  have grown : (putK kvs k v).length ≤ sizeLine := by
    have := length_putK kvs k v
    omega
  refine wpAny_dictSet_heap (hsz := small) room (key_of I.hok hb) dd fun h2 d2 sb => fin _ ?_
  obtain ⟨o2, es, ep, g2, c2, t2, e2, _, n2⟩ := d2
  refine d_write I (by rw [hD]; trivial) sb ⟨o2, g2⟩ ⟨grown, hs, _, (kt.put k hb rv).keeps fun c ys ec => ?_, o2, es, ep, g2, c2, t2, e2, n2⟩
  exact (upd_ne (ne_of ec hD (fun z => nomatch z))).trans ec
def tDcT (wi : TI) (g : TG) (tk tv : TE) (own : List Nat) : TE := fun σ H Q => wi σ H fun J H1 => ∀ D, H1 D = none → ∃ W : Nat → Nat → Hp → Prop, (∃ m, W 0 m (upd H1 D (.dT []))) ∧ ∀ i m H, W i m H →
  (J.stop i H ∧ Q (.ref D) H) ∨ (J.go i H ∧ ∃ Nx : Hp → Prop, (∀ H', Nx H' → ∃ m', m' < m ∧ W (i + 1) m' H') ∧ ∀ x H', J.yld i H x H' → g x (wipe σ own) H' fun σ2 H2 => wipe σ2 own = wipe σ own ∧
    tk σ2 H2 fun y H3 => tv σ2 H3 fun c H4 => ∃ kvs k b, y = .ref b ∧ H4 b = some (.tup (k.map kV)) ∧ H4 D = some (.dT kvs) ∧ kvs.length < sizeLine ∧ Nx (upd H4 D (.dT (putK kvs k c))))
theorem pe_dcT {X : Cx} {kx vx tg iter : Expr} {scope : Scope} {own : List (Str × Nat)} {pos : Pos} {wi : TI} {g : TG} {tk tv : TE} (calm : X.calm = true) (room : X.A.units < cLine) (nd : X.N.Nodup) (src : PI X tg iter wi) (blk : BlkOk X.N X.env.scope scope own)
    (aim : ∀ (z : Shared) (Hz : Hp) (cl : List (Str × Addr)) (C : Addr) (fp : List Addr), PG (X.blk z Hz scope (compEnvC scope cl C X.env) fp) tg g)
    (key : ∀ (z : Shared) (Hz : Hp) (cl : List (Str × Addr)) (C : Addr) (fp : List Addr), PE (X.blk z Hz scope (compEnvC scope cl C X.env) fp) kx tk)
    (val : ∀ (z : Shared) (Hz : Hp) (cl : List (Str × Addr)) (C : Addr) (fp : List Addr), PE (X.blk z Hz scope (compEnvC scope cl C X.env) fp) vx tv) (plain : ∀ x, foldedSetIterable iter X.env x = pure x := by intro _; rfl) :
    PE X (.DictComp kx vx [⟨tg, iter, [], 0⟩] scope pos) (tDcT wi g tk tv (own.map (·.2))) := by
  refine ⟨fun pins s σ H Q I want => ?_⟩
  rw [arm_eval_DictComp]
  have outer : ∀ y ∈ scope.names, y.2 = .free → ∃ c, X.env.cells.lookup y.1 = some c := fun y hy e => (blk.free y hy e).elim (fun k => I.ok.has _ (.inl k)) fun k => I.ok.has _ (.inr k)
  refine wpAny_comprehension_free (use := none) rfl plain (closure_ok outer) blk.kind (fun y hy e => by rw [blk.uniq y hy, e]) (thn (src.run pins s σ H _ I want) fun _ _ begun => thn begun fun itv s2 ready => ?_)
  obtain ⟨it, fp, tn, J, H2, rfl, I2, T, at0, out2, rest⟩ := ready
  refine wpAny_newObj_type (newEnv_comp ?_)
  have fresh : H2 s2.heap.objs.size = none := I2.hok.fresh (Nat.le_refl _)
  obtain ⟨W, ⟨m0, w0⟩, turn⟩ := rest _ fresh
  have laid := I2.laid (a := s2.heap.objs.size) (o := .dT []) (t' := s2.toks) (fun b o e => Heap.get?_push_of_some _ e) (Nat.le_refl _) (dt_empty s2.heap I2.big)
  have below : ∀ b ∈ fp, b < s2.heap.objs.size := fun b hb => let ⟨_, e, _⟩ := T.obj _ _ at0 b hb; Heap.lt_size e
  have fp3 : ∀ b ∈ fp, FpOk X pins (upd H2 s2.heap.objs.size (.dT [])) b ∧ b < (s2.heap.push { cls := .type "dict", data := .dict #[] }).objs.size := fun b hb => by
    refine ⟨⟨(upd_ne (Nat.ne_of_lt (below b hb))).trans (out2 b hb).1, (out2 b hb).2⟩, ?_⟩
    rw [Heap.size_push]
    exact Nat.lt_succ_of_lt (below b hb)
  have at3 : tn 0 (s2.heap.push { cls := .type "dict", data := .dict #[] }) := T.keep _ _ _ at0 fun b _ o e => Heap.get?_push_of_some _ e
  generalize hz : ({ s2 with heap := s2.heap.push { cls := .type "dict", data := .dict #[] } } : Shared) = z at laid
  have hzh : z.heap = s2.heap.push { cls := .type "dict", data := .dict #[] } := by rw [← hz]
  rw [← hzh] at fp3 at3
  have inner := block_start laid blk nd fp3
  have aim' := aim z (upd H2 s2.heap.objs.size (.dT [])) (cellsFrom (z.heap.objs.size + 1) scope.names (cloFrom X.env.cells scope.names [])) z.heap.objs.size fp
  have key' := key z (upd H2 s2.heap.objs.size (.dT [])) (cellsFrom (z.heap.objs.size + 1) scope.names (cloFrom X.env.cells scope.names [])) z.heap.objs.size fp
  have val' := val z (upd H2 s2.heap.objs.size (.dT [])) (cellsFrom (z.heap.objs.size + 1) scope.names (cloFrom X.env.cells scope.names [])) z.heap.objs.size fp
  have noFp : ∀ b ∈ fp, upd H2 s2.heap.objs.size (.dT []) b = none := fun b hb => (fp3 b hb).1.1
  have goal2 : codeAny (model X.prog X.w) X.A (.compStart (.DictComp kx vx [⟨tg, iter, [], 0⟩] scope pos) 0 (.ref it) (.ref s2.heap.objs.size) (compEnvC scope (cellsFrom (z.heap.objs.size + 1) scope.names (cloFrom X.env.cells scope.names [])) z.heap.objs.size X.env))
      (compPost (model X.prog X.w) X.A X.xe none (EP X pins σ Q) (.ref s2.heap.objs.size) z.heap.objs.size) { z with heap := pushCells (z.heap.push { cls := .type "dict", data := .dict #[] }) scope.names } := ?_
  · exact goal2
  generalize hce : compEnvC scope (cellsFrom (z.heap.objs.size + 1) scope.names (cloFrom X.env.cells scope.names [])) z.heap.objs.size X.env = ce at inner aim' key' val' ⊢
  have loc : ce.locals = z.heap.objs.size := by rw [← hce]; rfl
  generalize hB : upd H2 s2.heap.objs.size (.dT []) = Hb at laid inner aim' key' val' w0 noFp fp3
  generalize hs4 : ({ z with heap := pushCells (z.heap.push { cls := .type "dict", data := .dict #[] }) scope.names } : Shared) = s4 at inner ⊢
  have at4 : tn 0 s4.heap := T.keep _ _ _ at3 fun b _ o e => by
    rw [← hs4]
    exact pushCells_keeps _ _ _ _ (Heap.get?_push_of_some _ e)
  have apart : ∀ {σ1 : L2.St} {H1 : Hp} {z1 : Shared}, Inv (X.blk z Hb scope ce fp) [] σ1 H1 z1 → (∀ b ∈ fp, H1 b = none) → ∀ b ∈ fp, FpOk (X.blk z Hb scope ce fp) [] H1 b := fun I1 n1 b hb =>
    ⟨n1 b hb, (I1.ok.exf b hb).1, I1.ok.exfs b hb, .inl hb, fun x c e => (I1.ok.exf b hb).2 x c e, fun p hp => nomatch hp⟩
  have loop : codeAny (model X.prog X.w) X.A (.compLoop (.DictComp kx vx [⟨tg, iter, [], 0⟩] scope pos) 0 (.ref it) (.ref s2.heap.objs.size) ce) (compPost (model X.prog X.w) X.A X.xe none (EP X pins σ Q) (.ref s2.heap.objs.size) z.heap.objs.size) s4 := by
    refine compLoop_anyD (fun n z1 => ∃ i H1, Inv (X.blk z Hb scope ce fp) [] (wipe σ (own.map (·.2))) H1 z1 ∧ tn i z1.heap ∧ (∀ b ∈ fp, H1 b = none) ∧ W i n H1) ?_ m0 ⟨0, Hb, inner, at4, noFp, w0⟩
    rintro n z5 ⟨i, H5, I5, at5, n5, w5⟩
    cases turn i n H5 w5 with
    | inl over =>
      obtain ⟨stop, told⟩ := over
      refine thnF (T.done (X.blk z Hb scope ce fp) rfl rfl rfl calm i [] z5 _ H5 (fun _ _ => False) I5 (apart I5 n5) at5 stop) fun r z6 ⟨hr, I6⟩ => ?_
      subst hr
      have back : Inv X pins σ H5 z6 := laid.call' (ch := fp) I6.os I6.base I6.hok I6.bare fun b hb => let f := (fp3 b hb).1; ⟨f.2.2.2.1, f.2.1, f.2.2.2.2.1, f.2.2.2.2.2⟩
      have nL : H5 z.heap.objs.size = none := by rw [← loc]; exact I6.free
      obtain ⟨m, ns, _⟩ := I6.loc
      have ns' : z6.heap.Ns ce.locals m := ns
      rw [loc] at ns'
      refine ⟨m, ns', fun h7 sb => ?_⟩
      have f := laid.fpOk (Nat.le_refl z.heap.objs.size) nL
      exact ⟨.ref s2.heap.objs.size, H5, back.turned (t' := z6.toks) (fun b o hb e => (sb.2 b hb).trans e) f.1 f.2.1 f.2.2.2.1 f.2.2.2.2.1 f.2.2.2.2.2, rfl, told⟩
    | inr more =>
      obtain ⟨go, Nx, after, step⟩ := more
      refine thnF (T.item (X.blk z Hb scope ce fp) rfl rfl rfl calm i [] z5 _ H5 (fun _ _ => False) I5 (apart I5 n5) at5 go) fun r z6 ⟨u, hr, h6⟩ => ?_
      subst hr
      refine thnF h6 fun _ z7 ⟨x, H7, I7, r7, y7, at7, n7⟩ => ?_
      refine thnF (aim'.run _ z7 _ H7 x u _ (I7.pinned (apart I7 n7) (T.obj _ _ at7)) r7 (step x H7 y7)) fun _ z8 ⟨σ8, H8, I8, same8, q8⟩ => ?_
      refine wpAny_pure ?_
      show if true = true then _ else _
      rw [if_pos rfl]
      refine thnF (key'.run _ z8 σ8 H8 _ I8 q8) fun ky z9 ⟨yk, H9, I9, r9, q9⟩ => ?_
      refine thnF (val'.run _ z9 σ8 H9 _ I9 q9) fun vy z10 ⟨yv, H10, I10, r10, kvs, k, b, eb, hb10, hD10, lt10, nx⟩ => ?_
      subst eb
      obtain rfl : ky = Value.ref b := r9
      refine dsetT (X := X.blk z Hb scope ce fp) room I10 hD10 hb10 lt10 r10 fun z11 I11 => ?_
      obtain ⟨m', less, w'⟩ := after _ nx
      have pin : ∀ c ∈ fp, ∀ o, z7.heap.get? c = some o → z11.heap.get? c = some o ∧ upd H10 s2.heap.objs.size (.dT (putK kvs k yv)) c = none := fun c hc o e => by
        have p := I11.pin (c, o) (List.mem_append_right _ (List.mem_append_right _ (mem_pinsAt hc e)))
        exact ⟨p.1, p.2.1⟩
      refine ⟨m', less, i + 1, _, (I11.unpinned (pins := [])).weak ?_ (fun j v e => ?_), T.keep _ _ _ at7 fun c hc o e => (pin c hc o e).1, fun c hc => ?_, w'⟩
      · rw [← same8, wipe_length]
      · rw [← same8] at e
        exact (wipe_some e).1
      · obtain ⟨o, e, _⟩ := T.obj _ _ at7 c hc
        exact (pin c hc o e).2
  exact codeAny_compStart_dict loop (T.self X.A 0 _ _ _ at4 loop)
/-! ### sorting tuples of ints -/
/-- the order of tuples of ints -/
def ltZ : List Int → List Int → Bool
  | [], [] => false
  | [], _ :: _ => true
  | _ :: _, [] => false
  | x :: r, y :: t => decide (x < y) || (!decide (y < x) && ltZ r t)
theorem ltZ_lex : ∀ a b : List Int, lexLt itemOrd (a.map Sum.inl) (b.map Sum.inl) = ltZ a b
  | [], [] => rfl
  | [], _ :: _ => rfl
  | _ :: _, [] => rfl
  | x :: r, y :: t => by
    show lexLt itemOrd (Sum.inl x :: r.map Sum.inl) (Sum.inl y :: t.map Sum.inl) = _
    rw [lex_cons, ltZ_lex r t]
    rfl
def TupI (h : Heap) (u : Value) (ks : List Int) : Prop := ∃ a o its n, u = Value.ref a ∧ h.get? a = some o ∧ o.cls = .type "tuple" ∧ o.data = .seq its n ∧ Vals (ks.map V.int) its.toList
theorem TupI.keep {h h' : Heap} {u : Value} {ks : List Int} (t : TupI h u ks) (k : ∀ b o, h.get? b = some o → h'.get? b = some o) : TupI h' u ks := by
  obtain ⟨a, o, its, n, e, g, r⟩ := t
  exact ⟨a, o, its, n, e, k _ _ g, r⟩
theorem tupItems_ints : ∀ (ks : List Int) (us : List Value) (i : Nat), Vals (ks.map V.int) us → tupItems (fun _ => false) i us = some (ks.map Sum.inl)
  | [], us, i, r => by
    cases r
    rfl
  | k :: ks, us, i, r => by
    cases r with
    | cons r1 r2 =>
      obtain ⟨t, rfl⟩ := r1
      show (if (fun _ : Nat => false) i = true then none else (tupItems (fun _ => false) (i + 1) _).map (Sum.inl k :: ·)) = _
      rw [if_neg (fun z => nomatch z), tupItems_ints ks _ (i + 1) r2]
      rfl
theorem TupI.key {h : Heap} {u : Value} {ks : List Int} (t : TupI h u ks) : G.tupKeyC h (fun _ => false) u = some (ks.map Sum.inl) := by
  obtain ⟨a, o, its, n, rfl, g, c, d, r⟩ := t
  exact G.tupKeyC_of g c d (tupItems_ints ks _ 0 r)
theorem tupsOf_ints {h : Heap} {k : Value → List Int} : ∀ {vs : List Value}, (∀ u ∈ vs, TupI h u (k u) ∧ k u ≠ []) → ∃ fs, TupsOf h (fun _ => false) vs fs
  | [], _ => ⟨[], .nil⟩
  | u :: vs, e => by
    obtain ⟨fs, r⟩ := tupsOf_ints (vs := vs) fun y hy => e y (List.mem_cons_of_mem _ hy)
    obtain ⟨t, ne⟩ := e u List.mem_cons_self
    obtain ⟨a, o, its, n, rfl, g, c, d, rv⟩ := t
    revert ne rv
    generalize k (Value.ref a) = ks
    intro ne rv
    cases ks with
    | nil => exact absurd rfl ne
    | cons k0 kr =>
      generalize hl : its.toList = l at rv
      cases rv with
      | cons r1 r2 =>
        obtain ⟨t, rfl⟩ := r1
        have h0 : its[0]? = some (Value.int k0 t) := by rw [← Array.getElem?_toList, hl]; rfl
        exact ⟨_, .cons ⟨a, o, its, n, rfl, g, c, d, h0, fun _ => ⟨_, _, rfl⟩, fun z => nomatch z⟩ r⟩
/-- what a sort of keyed pairs leaves, told of the values -/
theorem sorted_told {h : Heap} {k : Value → List Int} {vs : List Value} {arr : Array Keyed} (each : ∀ u ∈ vs, TupI h u (k u)) (hp : arr.Perm (PyProof.Rows.pairsOf vs)) (hs : SortedToK (G.tupKindC h fun _ => false) arr (PyProof.Rows.pairsOf vs).size) :
    (arr.map (·.2)).toList.Perm vs ∧ (arr.map (·.2)).toList.Pairwise fun x y => ltZ (k y) (k x) = false := by
  have pl := Array.perm_iff_toList_perm.mp hp
  rw [pairsOf_toList] at pl
  have two : ∀ p ∈ arr.toList, p.1 = p.2 ∧ p.1 ∈ vs := fun p m => mem_zip_self (pl.mem_iff.mp m)
  have e : (arr.map (·.2)).toList = arr.toList.map (·.2) := by simp
  rw [e]
  constructor
  · have z := pl.map (·.2)
    rw [List.map_snd_zip (Nat.le_refl _)] at z
    exact z
  · rw [List.pairwise_map, List.pairwise_iff_getElem]
    intro i j hi hj lt
    have sz : arr.size = (PyProof.Rows.pairsOf vs).size := hp.size_eq
    have q := hs i j (Nat.le_of_lt lt) (by rw [← sz]; simpa using hj)
    have at_ : ∀ (n : Nat) (hn : n < arr.toList.length), KK (G.tupKindC h fun _ => false) arr n = (k (arr.toList[n]).2).map Sum.inl := fun n hn => by
      obtain ⟨e1, m1⟩ := two _ (List.getElem_mem hn)
      have g : arr[n]? = some arr.toList[n] := by rw [← Array.getElem?_toList]; exact List.getElem?_eq_getElem hn
      unfold KK
      rw [g]
      show (G.tupKeyC h (fun _ => false) (arr.toList[n]).1).getD [] = _
      rw [(each _ m1).key, ← e1]
      rfl
    have q2 : lexLt itemOrd (KK (G.tupKindC h fun _ => false) arr j) (KK (G.tupKindC h fun _ => false) arr i) = false := q
    rw [at_ i hi, at_ j hj, ltZ_lex] at q2
    exact q2
section
variable {prog : Program} {w : World} {A : Around} {E : Value → Shared → Prop} {z : Shared}
/-- sorted(v), v's items tuples of ints -/
theorem sort_ints_of {v : Value} {vs : List Value} {k : Value → List Int} {Q : Value → Shared → Prop} (each : ∀ u ∈ vs, TupI z.heap u (k u) ∧ k u ≠ []) (small : vs.length ≤ sizeLine)
    (col : ∀ (A' : Around) (R : List Value → Shared → Prop) (E' : Value → Shared → Prop), A'.handled = A.handled → (∀ h' tk, (∀ b o, z.heap.get? b = some o → h'.get? b = some o) → z.heap.objs.size ≤ h'.objs.size → R vs { z with heap := h', toks := tk }) → wpAny (model prog w) A' (collect v) R E' z)
    (fin : ∀ h' tk p (out : Array Value) n, (∀ b o, z.heap.get? b = some o → h'.get? b = some o) → z.heap.objs.size ≤ p → h'.get? p = some (seqObj "list" out n) → out.toList.Perm vs → (out.toList.Pairwise fun x y => ltZ (k y) (k x) = false) → Q (.ref p) { z with heap := h', toks := tk }) :
    wpAny (model prog w) A (call (.builtin "sorted") [v]) Q E z := by
  refine Calls.call_function_entry kind_sorted plain_sorted entry_sorted (args_sorted1 _) ?_
  unfold Builtin.«sorted»
  refine wpAny_bind (m := checkCount "sorted" 1 1 _) (wpAny_pure ?_)
  refine wpAny_bind (col _ _ _ rfl fun h1 tk kp le => ?_)
  refine wpAny_bind (wpAny_newList ?_)
  have gL : (h1.push (seqObj "list" vs.toArray 0)).get? h1.objs.size = some (seqObj "list" vs.toArray 0) := Heap.get?_push_size _ rfl
  have kp2 : ∀ b o, z.heap.get? b = some o → (h1.push (seqObj "list" vs.toArray 0)).get? b = some o := fun b o e => Heap.get?_push_of_some _ (kp b o e)
  have each2 : ∀ u ∈ vs, TupI (h1.push (seqObj "list" vs.toArray 0)) u (k u) ∧ k u ≠ [] := fun u hu => ⟨(each u hu).1.keep kp2, (each u hu).2⟩
  obtain ⟨fs, tf⟩ := tupsOf_ints each2
  refine wpAny_bind (wpAny_holding (wpAny_call_entry slot_list_sort ⟨_, gL, rfl⟩ entry_list_sort
    (G.list_sort_tups (s := { z with heap := h1.push (seqObj "list" vs.toArray 0), toks := tk }) gL tf (fun u hu => ⟨_, (each2 u hu).1.key⟩) small fun st' a1 a2 a3 => ⟨_, rfl, ?_⟩) (args_list_sort _)))
  obtain ⟨t1, t2⟩ := sorted_told (fun u hu => (each2 u hu).1) a1 a2
  obtain ⟨n, gn⟩ := sortedHeap_at (vs := vs) (out := (arrOf st').map (·.2)) gL
  exact wpAny_pure ⟨_, rfl, fin _ _ _ _ n (fun b o e => (sortedHeap_old (Nat.ne_of_lt (Nat.lt_of_lt_of_le (Heap.lt_size e) le)) (Heap.lt_size (kp2 b o e))).trans (kp2 b o e)) le gn t1 t2⟩
theorem ints_inj : ∀ {ks ls : List Int}, ks.map V.int = ls.map V.int → ks = ls
  | [], [], _ => rfl
  | [], _ :: _, e => nomatch e
  | _ :: _, [], e => nomatch e
  | k :: ks, l :: ls, e => by
    obtain ⟨e1, e2⟩ := List.cons.inj e
    rw [V.int.inj e1, ints_inj e2]
theorem TupI.uniq {h : Heap} {u : Value} {ks ls : List Int} (a : TupI h u ks) (b : TupI h u ls) : ks = ls := by
  obtain ⟨p, o, its, n, e, g, _, d, r⟩ := a
  obtain ⟨p2, o2, its2, n2, e2, g2, _, d2, r2⟩ := b
  obtain rfl : p = p2 := Value.ref.inj (e.symm.trans e2)
  rw [g] at g2
  obtain rfl := Option.some.inj g2
  rw [d] at d2
  obtain ⟨rfl, rfl⟩ := Data.seq.inj d2
  exact ints_inj (r.inj r2)
open Classical in
/-- the ints of a tuple in the heap -/
noncomputable def kOf (h : Heap) (u : Value) : List Int := if e : ∃ ks, TupI h u ks then e.choose else []
theorem kOf_at {h : Heap} {u : Value} {ks : List Int} (t : TupI h u ks) : kOf h u = ks := by
  unfold kOf
  rw [dif_pos ⟨ks, t⟩]
  exact (Exists.choose_spec (⟨ks, t⟩ : ∃ ks, TupI h u ks)).uniq t
end
theorem vals_fun : ∀ (as : List Addr) {us : List Value}, Vals (as.map V.ref) us → us = as.map Value.ref
  | [], _, r => by cases r; rfl
  | a :: as, us, r => by
    cases r with
    | cons r1 r2 =>
      cases r1
      rw [vals_fun as r2]
      rfl
section
variable {X : Cx} {pins : List (Addr × Obj)} {σ : L2.St} {H : Hp} {z : Shared}
theorem tupI_of (I : Inv X pins σ H z) {a : Addr} {ks : List Int} (e : SqT X.K H a (ks.map V.int)) : TupI z.heap (.ref a) ks := by
  obtain ⟨its, r, p, _⟩ := I.tuple e
  obtain ⟨o, g, c, n, d⟩ := p
  exact ⟨a, o, _, n, rfl, g, c, d, r⟩
theorem sort_core {A : Around} {E : Value → Shared → Prop} {v : Value} {bs0 : List (Addr × List Int)} {Q : VK} (I : Inv X pins σ H z) (tups : ∀ b ∈ bs0, SqT X.K H b.1 (b.2.map V.int) ∧ b.2 ≠ []) (small : bs0.length ≤ sizeLine)
    (col : ∀ (A' : Around) (R : List Value → Shared → Prop) (E' : Value → Shared → Prop), A'.handled = A.handled → (∀ h' tk, (∀ b o, z.heap.get? b = some o → h'.get? b = some o) → z.heap.objs.size ≤ h'.objs.size → R (bs0.map fun b => .ref b.1) { z with heap := h', toks := tk }) → wpAny (model X.prog X.w) A' (collect v) R E' z)
    (q : ∀ p (bs : List (Addr × List Int)), H p = none → bs.Perm bs0 → (bs.Pairwise fun x y => ltZ y.2 x.2 = false) → Q (.ref p) (upd H p (.lst (bs.map fun b => .ref b.1)))) :
    wpAny (model X.prog X.w) A (call (.builtin "sorted") [v]) (EP X pins σ Q) E z := by
  have at_ : ∀ b ∈ bs0, kOf z.heap (.ref b.1) = b.2 := fun b hb => kOf_at (tupI_of I (tups b hb).1)
  refine sort_ints_of (k := kOf z.heap) (vs := bs0.map fun b => .ref b.1) (fun u hu => ?_) (by rw [List.length_map]; exact small) col fun h' tk p out n kp le gp pm pw => ?_
  · obtain ⟨b, hb, rfl⟩ := List.mem_map.mp hu
    rw [at_ b hb]
    exact ⟨tupI_of I (tups b hb).1, (tups b hb).2⟩
  · obtain ⟨bs, pb, eb⟩ := L2.perm_lift (fun b : Addr × List Int => Value.ref b.1) pm bs0 rfl
    have none1 : H p = none := I.hok.fresh le
    have rv : Vals (bs.map fun b => V.ref b.1) out.toList := by
      rw [← eb]
      exact vals_maps (fun b : Addr × List Int => V.ref b.1) (fun b => Value.ref b.1) bs fun _ _ => rfl
    have pw2 : bs.Pairwise fun x y => ltZ y.2 x.2 = false := by
      rw [← eb, List.pairwise_map] at pw
      refine List.Pairwise.imp_of_mem (fun {x y} hx hy h => ?_) pw
      rw [at_ x (pb.mem_iff.mp hx), at_ y (pb.mem_iff.mp hy)] at h
      exact h
    refine ⟨.ref p, upd H p (.lst (bs.map fun b => .ref b.1)), I.laid (t' := tk) kp le ⟨?_, out.toList, n, rv, ?_⟩, rfl, q p bs none1 pb pw2⟩
    · rw [List.length_map, pb.length_eq]
      exact small
    · rw [Array.toArray_toList]
      exact gp
/-- sorted(xs), xs a list of tuples of ints -/
def rSortT (K : PySem.W.Frag) : List V → Hp → VK → Prop := fun vs H Q => ∃ (a : Addr) (bs0 : List (Addr × List Int)), vs = [.ref a] ∧ SqL K H a (bs0.map fun b => .ref b.1) ∧ (∀ b ∈ bs0, SqT K H b.1 (b.2.map V.int) ∧ b.2 ≠ []) ∧
  ∀ p (bs : List (Addr × List Int)), H p = none → bs.Perm bs0 → (bs.Pairwise fun x y => ltZ y.2 x.2 = false) → Q (.ref p) (upd H p (.lst (bs.map fun b => .ref b.1)))
theorem cr_sortT : CallR X (.builtin "sorted") (rSortT X.K) := by
  intro pins s σ H vs us Q I r h
  obtain ⟨a, bs0, rfl, hs, tups, q⟩ := h
  obtain ⟨its, rv, pl, hz⟩ := I.list hs
  obtain ⟨u, rfl, ru⟩ := vals1 r
  obtain rfl : u = Value.ref a := ru
  have ei : its = bs0.map fun b => .ref b.1 := by
    have e := vals_fun (bs0.map (·.1)) (by rw [List.map_map]; exact rv)
    rw [e, List.map_map]
    rfl
  rw [List.length_map] at hz
  subst ei
  refine sort_core I tups hz (fun A' R E' _ fin => collect_list pl.isList (fin _ s.toks (fun b o e => ?_) ?_) (by rw [List.length_map]; exact hz)) q
  · rw [Heap.get?_update_ne _ _ _ _ (Nat.ne_of_lt (Heap.lt_size e))]
    exact Heap.get?_push_of_some _ e
  · rw [Heap.size_update, Heap.size_push]
    exact Nat.le_succ _
end
/-! ### sorted(d.keys()), the keys tuples of ints -/
theorem keys_paired {H : Hp} : ∀ {kvs : List (List Key × V)} {xs : List (List Key × Addr × Value)} {ks : List (List Int)}, KT H kvs xs → kvs.map (·.1) = ks.map (fun k => k.map Sum.inl) → xs.length = ks.length ∧ ∀ b ∈ (xs.map (fun x => x.2.1)).zip ks, H b.1 = some (.tup (b.2.map V.int))
  | _, _, ks, .nil, e => by
    cases ks with
    | nil => exact ⟨rfl, fun b hb => nomatch hb⟩
    | cons k kr => exact nomatch (show ([] : List (List Key)) = _ :: _ from e)
  | _, _, ks, .cons (a := p) (b := x) h t, e => by
    cases ks with
    | nil => exact nomatch (show _ :: _ = ([] : List (List Key)) from e)
    | cons k kr =>
      obtain ⟨e1, e2⟩ := List.cons.inj (show p.1 :: _ = k.map Sum.inl :: _ from e)
      obtain ⟨l, r⟩ := keys_paired t e2
      refine ⟨congrArg (· + 1) l, fun b hb => ?_⟩
      rcases List.mem_cons.mp (show b ∈ (x.2.1, k) :: _ from hb) with rfl | hb
      · have q := h.2.1
        rw [e1, List.map_map] at q
        exact q
      · exact r b hb
def tSKT (td : TE) : TE := fun σ H Q => td σ H fun v H1 => ∃ (d : Addr) (kvs : List (List Key × V)) (ks : List (List Int)), v = .ref d ∧ H1 d = some (.dT kvs) ∧ kvs.map (·.1) = ks.map (fun k => k.map Sum.inl) ∧ (∀ k ∈ ks, k ≠ []) ∧
  ∀ p (bs : List (Addr × List Int)), H1 p = none → (bs.map (·.2)).Perm ks → (bs.Pairwise fun x y => ltZ y.2 x.2 = false) → (∀ b ∈ bs, H1 b.1 = some (.tup (b.2.map V.int))) → Q (.ref p) (upd H1 p (.lst (bs.map fun b => .ref b.1)))
theorem pe_sKT {X : Cx} {e : Expr} {td : TE} {p pos apos cpos : Pos} (calm : X.calm = true) (hg : Gl X "sorted") (hm : X.mg "sorted" = none) (hv : bootBuiltins "sorted" = some (.builtin "sorted")) (he : PE X e td) (hbase : attributeBase e "keys" X.env (eval e X.env) = eval e X.env := by rfl)
    (hline : (apos.endLine == cpos.line) = true := by rfl)
    (hs : starEach [.Call (.Attribute e "keys" apos) [] [] cpos] X.env = [(false, eval (.Call (.Attribute e "keys" apos) [] [] cpos) X.env)] := by rfl) (hpl : (backTo pos (starEach [.Call (.Attribute e "keys" apos) [] [] cpos] X.env)) = [(false, eval (.Call (.Attribute e "keys" apos) [] [] cpos) X.env)] := by rfl)
    (hn : ("sorted" : Str) ≠ "__name__" := by decide) (hdb : (("sorted" : Str) == ("__debug__" : Str)) = false := by decide) :
    PE X (.Call (.Name "sorted" p) [.Call (.Attribute e "keys" apos) [] [] cpos] [] pos) (tSKT td) := by
  refine ⟨fun pins s σ H Q I want => ?_⟩
  refine wpAny_Call_Name_kw (ld_blt I hg hm hv ?_ hn hdb)
  rw [hpl]
  refine PySem.callWith_builtin1 ?_
  refine wpAny_Call_method (T := "dict") (id := "dict.keys") hbase rfl hline F.plainAttrs_dict F.slot_dict_keys F.type_dict_keys (thn (he.run pins s σ H _ I want) fun u s1 told => ?_)
  obtain ⟨x, H1, I1, rx, d, kvs, ks, rfl, hd, eks, ne, q⟩ := told
  obtain rfl : u = Value.ref d := rx
  obtain ⟨hz, ns, xs, kt, dd⟩ := dt_of I1.hok hd
  obtain ⟨es, ep, raw, esz, enth⟩ := dd.raw
  refine ⟨raw.typeIs, dictOfH_noDict dd, ?_⟩
  show wpAny _ _ (callWith cpos (.builtin "dict.keys") [.ref d] [] []) _ X.xe s1
  refine method_meetsIn F.slot_dict_keys F.entry_dict_keys rfl (PySem.evalArgs_none ⟨rfl, raw.typeIs, F.args_dict_keys_1 _, _, meets_dict_keys_raw d ns, ⟨es, ep, raw⟩, ?_⟩)
  have I2 : Inv X pins σ H1 { s1 with heap := s1.heap.push { cls := .type "dict_keys", data := .fields #[.ref d] } } := I1.kept (t' := s1.toks) fun b o e => Heap.get?_push_of_some _ e
  obtain ⟨lx, tups⟩ := keys_paired kt eks
  have lk : (xs.map fun x => x.2.1).length = ks.length := by rw [List.length_map]; exact lx
  have n2 : ((xs.map fun x => x.2.1).zip ks).length = es.size := by rw [List.length_zip, lk, Nat.min_self, ← lx, esz]
  have top : (s1.heap.push { cls := .type "dict_keys", data := .fields #[.ref d] }).get? s1.heap.objs.size = some { cls := .type "dict_keys", data := .fields #[.ref d] } := Heap.get?_push_size _ rfl
  refine sort_core (bs0 := (xs.map fun x => x.2.1).zip ks) I2 (fun b hb => ⟨SqT.of (tups b hb), ne b.2 (List.of_mem_zip hb).2⟩) ?_ (fun A' R E' hA fin => ?_) fun p bs hp pm pw => ?_
  · rw [n2, esz, ← Paired.length kt]
    exact hz
  · refine PySem.W.kdu_collect (KdlSrc.rawKeys (r := s1.heap.objs.size) (d := d) (es := es) (ep := ep)) (hA.trans (I1.ok.hd calm)) ⟨⟨_, top, rfl, rfl⟩, raw.at fun o e => Heap.get?_push_of_some _ e⟩ ?_ fun h' tk acc kp it => ?_
    · rw [esz, ← Paired.length kt]
      exact hz
    · have eacc : acc.toList = ((xs.map fun x => x.2.1).zip ks).map fun b => .ref b.1 := by
        have la : acc.toList.length = es.size := by rw [Array.length_toList]; exact it.1
        apply List.ext_getElem (by rw [List.length_map, n2, la])
        intro i h1 h2
        have hi : i < es.size := by omega
        obtain ⟨hi', ev⟩ := it.2 i acc.toList[i] (by rw [← Array.getElem?_toList]; exact List.getElem?_eq_getElem h1)
        obtain ⟨y, hy, ek, _⟩ := enth i hi
        obtain ⟨hx, exy⟩ := List.getElem?_eq_some_iff.mp hy
        rw [ev, ek, List.getElem_map, List.getElem_zip, List.getElem_map, exy]
      rw [eacc]
      refine fin h' tk kp ?_
      have lt : s1.heap.objs.size < h'.objs.size := Heap.lt_size (kp _ _ top)
      show (s1.heap.push _).objs.size ≤ _
      rw [Heap.size_push]
      exact lt
  · refine q p bs hp ?_ pw fun b hb => tups b (pm.mem_iff.mp hb)
    have z := pm.map (·.2)
    rw [List.map_snd_zip (Nat.le_of_eq lk.symm)] at z
    exact z
/-! ### dict(xs), xs a list of pairs (tuple, value) -/
/-- a pair's place, its key's place, the key, the value -/
abbrev PKV := Addr × Addr × List Key × V
def putAllK (acc : List (List Key × V)) (ps : List PKV) : List (List Key × V) := ps.foldl (fun acc x => putK acc x.2.2.1 x.2.2.2) acc
theorem putAllK_len : ∀ (ps : List PKV) (acc : List (List Key × V)), (putAllK acc ps).length ≤ acc.length + ps.length
  | [], _ => Nat.le_refl _
  | x :: ps, acc => by
    have h1 := putAllK_len ps (putK acc x.2.2.1 x.2.2.2)
    have h2 := length_putK acc x.2.2.1 x.2.2.2
    show (putAllK (putK acc x.2.2.1 x.2.2.2) ps).length ≤ _
    rw [List.length_cons]
    omega
def PkOk (H : Hp) (x : PKV) : Prop := H x.1 = some (.tup [.ref x.2.1, x.2.2.2]) ∧ H x.2.1 = some (.tup (x.2.2.1.map kV))
/-- the pairs as they lie in the heap -/
def PkAt (H : Hp) (h : Heap) (x : PKV) (r : List Key × Addr × Value) : Prop := x.2.2.1 = r.1 ∧ x.2.1 = r.2.1 ∧ RelV x.2.2.2 r.2.2 ∧ H r.2.1 = some (.tup (r.1.map kV)) ∧ PairAt h x.1 (.ref r.2.1) r.2.2
section
variable {X : Cx} {pins : List (Addr × Obj)} {σ : L2.St} {H : Hp} {z : Shared}
theorem pk_at (I : Inv X pins σ H z) : ∀ ps : List PKV, (∀ x ∈ ps, PkOk H x) → ∃ rs, Paired (PkAt H z.heap) ps rs
  | [], _ => ⟨[], .nil⟩
  | x :: ps, e => by
    obtain ⟨rs, r⟩ := pk_at I ps fun y hy => e y (List.mem_cons_of_mem _ hy)
    obtain ⟨e1, e2⟩ := e x List.mem_cons_self
    obtain ⟨_, its, rv, o, g, c, n, d⟩ := (show ObjOk X.prog X.w H z.heap x.1 (.tup [.ref x.2.1, x.2.2.2]) from I.hok _ _ e1)
    obtain ⟨u1, u2, rfl, r1, r2⟩ := vals2 rv
    obtain rfl : u1 = Value.ref x.2.1 := r1
    exact ⟨(x.2.2.1, x.2.1, u2) :: rs, .cons ⟨rfl, rfl, r2, e2, .inl ⟨o, g, c, n, d⟩⟩ r⟩
end
theorem pk_kt {H H2 : Hp} {h : Heap} (tk : ∀ b ys, H b = some (.tup ys) → H2 b = some (.tup ys)) : ∀ {ps : List PKV} {rs : List (List Key × Addr × Value)} {kvs : List (List Key × V)} {xs : List (List Key × Addr × Value)}, Paired (PkAt H h) ps rs → KT H2 kvs xs → KT H2 (putAllK kvs ps) (storedAllH xs rs)
  | _, _, _, _, .nil, t => t
  | _, _, _, _, .cons (a := x) (b := r) e p, t => by
    obtain ⟨e1, e2, e3, e4, _⟩ := e
    have t2 := t.put x.2.2.1 (b := r.2.1) (y := x.2.2.2) (u := r.2.2) (by rw [e1]; exact tk _ _ e4) e3
    have q := pk_kt tk p t2
    rw [e1] at q
    have show1 : x.2.2.1 = r.1 := e1
    show KT H2 (putAllK (putK _ x.2.2.1 x.2.2.2) _) _
    rw [show1]
    exact q
theorem pk_get {H : Hp} {h : Heap} : ∀ {ps : List PKV} {rs : List (List Key × Addr × Value)}, Paired (PkAt H h) ps rs → ∀ (j : Nat) (r : List Key × Addr × Value), rs[j]? = some r → ∃ x, ps[j]? = some x ∧ PkAt H h x r
  | _, _, .nil, j, r, e => nomatch (show (none : Option (List Key × Addr × Value)) = some r from e)
  | _, _, .cons (a := x) e p, 0, r, hj => by
    cases hj
    exact ⟨x, rfl, e⟩
  | _, _, .cons e p, j + 1, r, hj => pk_get p j r hj
def rDictP (K : PySem.W.Frag) : List V → Hp → VK → Prop := fun vs H Q => ∃ (a : Addr) (ps : List PKV), vs = [.ref a] ∧ SqL K H a (ps.map fun x => .ref x.1) ∧ (∀ x ∈ ps, PkOk H x) ∧ ∀ p, H p = none → Q (.ref p) (upd H p (.dT (putAllK [] ps)))
theorem cr_dictP {X : Cx} (calm : X.calm = true) (room : X.A.units + 2 < cLine) : CallR X (.type "dict") (rDictP X.K) := by
  intro pins s σ H vs us Q I r h
  obtain ⟨a, ps, rfl, hs, oks, q⟩ := h
  obtain ⟨its, rv, pl, hz⟩ := I.list hs
  obtain ⟨u, rfl, ru⟩ := vals1 r
  obtain rfl : u = Value.ref a := ru
  rw [List.length_map] at hz
  have ei : its = ps.map fun x => Value.ref x.1 := by
    have e := vals_fun (ps.map (·.1)) (by rw [List.map_map]; exact rv)
    rw [e, List.map_map]
    rfl
  obtain ⟨rs, pr⟩ := pk_at I ps oks
  have len : ps.length = rs.length := Paired.length pr
  have ok : PlainSeq "list" s.heap a its.toArray ∧ PairItems s.heap its.toArray (fun j => ((ps[j]?).map (·.1)).getD 0) (rs.map fun r => (Value.ref r.2.1, r.2.2)) := by
    refine ⟨pl, ?_, fun j k v hj => ?_⟩
    · rw [ei, List.length_map, List.size_toArray, List.length_map, len]
    · rw [List.getElem?_map] at hj
      obtain ⟨r, hr, er⟩ := Option.map_eq_some_iff.mp hj
      cases er
      obtain ⟨x, hx, at_⟩ := pk_get pr j r hr
      refine ⟨?_, ?_⟩
      · rw [ei, List.getElem?_toArray, List.getElem?_map, hx]
        show some (Value.ref x.1) = some (Value.ref (((ps[j]?).map (·.1)).getD 0))
        rw [hx]
        rfl
      · show PairAt s.heap (((ps[j]?).map (·.1)).getD 0) _ _
        rw [hx]
        exact at_.2.2.2.2
  have P := PairArg.list (prog := X.prog) (w := X.w) a its.toArray (fun j => ((ps[j]?).map (·.1)).getD 0) (rs.map fun r => (Value.ref r.2.1, r.2.2))
  refine call_dict_pairsH (knd := tupleKind (mixKind X.prog X.w)) (ps := rs) P (I.ok.hd calm) (show X.A.in1.in1.units < cLine from room) ok ⟨by rw [List.length_map], fun j key v hj => ?_⟩ (fun h2 kp x hx => ?_) ?_ fun h2 tk dd kp => ?_
  · have hj' : (rs.map fun r => (Value.ref r.2.1, r.2.2))[j]? = some (key, v) := hj
    rw [List.getElem?_map] at hj'
    obtain ⟨r, hr, er⟩ := Option.map_eq_some_iff.mp hj'
    cases er
    exact ⟨r.1, r.2.1, hr, rfl⟩
  · obtain ⟨j, hj⟩ := List.mem_iff_getElem?.mp hx
    obtain ⟨y, _, at_⟩ := pk_get pr j x hj
    obtain ⟨o, it, n, g, c⟩ := key_of I.hok at_.2.2.2.1
    exact ⟨o, it, n, kp _ o (Nat.ne_of_lt (Heap.lt_size g)) (fun z => nomatch z) g, c⟩
  · rw [List.length_map, ← len]
    exact hz
  · have fresh : H s.heap.objs.size = none := I.hok.fresh (Nat.le_refl _)
    have k2 : ∀ b o, s.heap.get? b = some o → h2.get? b = some o := fun b o e => kp b o (fun z => nomatch z) e
    obtain ⟨o, es, ep, g, c, d, e, _, n⟩ := dd
    have kt : KT (upd H s.heap.objs.size (.dT (putAllK [] ps))) (putAllK [] ps) (storedAllH [] rs) := pk_kt (fun b ys e => by rw [upd_ne (ne_of_none e fresh)]; exact e) pr .nil
    have big : (s.heap.objs.size == sysModules) = false := by
      have := I.big
      exact beq_false_of_ne (Nat.ne_of_gt this)
    have small : (putAllK [] ps).length ≤ sizeLine := by
      have := putAllK_len ps []
      rw [List.length_nil] at this
      omega
    exact ⟨.ref s.heap.objs.size, _, I.laid (t' := tk) (o := .dT (putAllK [] ps)) k2 (Nat.le_refl _) ⟨small, big, _, kt, o, es, ep, g, c, d, e, n⟩, rfl, q _ fresh⟩
theorem hu2_of {A : Around} {k : Nat} (hr : Room k A) : A.units + 2 < cLine := by
  have := hr.units
  omega
section
variable {X : Cx} {K : PySem.W.Frag}
theorem k_sortT (hK : X.K = K := by rfl) : CallR X (.builtin "sorted") (rSortT K) := hK ▸ cr_sortT
theorem k_dictP (calm : X.calm = true) (room : X.A.units + 2 < cLine) (hK : X.K = K := by rfl) : CallR X (.type "dict") (rDictP K) := hK ▸ cr_dictP calm room
theorem k_leT (hu : X.A.units < cLine) (hK : X.K = K := by rfl) : OpR X (compareOp .LtE) (rLeT K) := hK ▸ op_leT hu
theorem k_enT {e : Expr} {ta : TA} {p pos tpos : Pos} {elts : List Expr} {kk : Nat} (hg : Gl X "enumerate") (hm : X.mg "enumerate" = none) (ha : PA X [e] ta) (hs : starEach [e] X.env = [(false, eval e X.env)] := by rfl) (hK : X.K = K := by rfl) :
    PI X (.Tuple elts kk tpos) (.Call (.Name "enumerate" p) [e] [] pos) (iEnT K ta) := hK ▸ pi_enT hg hm ha hs
theorem k_list_of (hK : X.K = K := by rfl) : CallR X (.type "list") (fun xs H Q => ∃ p ys, xs = [.ref p] ∧ (SqL K H p ys ∨ SqT K H p ys) ∧ ∀ l, H l = none → Q (.ref l) (upd H l (.lst ys))) := hK ▸ call_list_of
theorem k_fld {e : Expr} {f : Str} {pos : Pos} {ta : TE} (he : PE X e ta) (hb : attributeBase e f X.env (eval e X.env) = eval e X.env) (hK : X.K = K := by rfl) : PE X (.Attribute e f pos) (tFld K ta f) := hK ▸ pe_fld he hb
theorem k_sfld {o value : Expr} {f : Str} {pos pos' : Pos} {ta tv : TE} (ha : PE X o ta) (hv : PE X value tv) (hs : swapsWith value (some (.Attribute o f pos')) pos.line X.env = pure false) (hK : X.K = K := by rfl) : PS X (.Assign [.Attribute o f pos'] value pos) (sFld K ta tv f) := hK ▸ ps_fld ha hv hs
end
theorem k_pgT {X : Cx} {K : PySem.W.Frag} (n : Nat) {es : List Expr} {k : Nat} {pos : Pos} {t : TGs} (hc : X.calm = true) (h : PGs X es t) (hn : (assignEach es X.env).length = n := by rfl) (hst : (assignEach es X.env).findIdx? (·.1) = none := by rfl) (hK : X.K = K := by rfl) : PG X (.Tuple es k pos) (gTup K n t) := hK ▸ pg_tup hc h hn hst
/-! ### a tuple of the written part -/
def KTu (K : PySem.W.Frag) (a : Addr) (xs : List V) : Prop := ∀ H, SqT K H a xs
def AheadAt (K : PySem.W.Frag) (mg : Str → Option Value) : Prop := ∃ A b0 b1 b2 b3 : Addr, mg "AHEAD" = some (.ref A) ∧ KTu K A [.ref b0, .ref b1, .ref b2, .ref b3] ∧ KTu K b0 [.int 0, .int (-1)] ∧ KTu K b1 [.int 1, .int 0] ∧ KTu K b2 [.int 0, .int 1] ∧ KTu K b3 [.int (-1), .int 0]
theorem ktu_of {K : PySem.W.Frag} {a : Addr} {xs : List V} {its : Array Value} {n : Nat} (e : K.lookup a = some { cls := .type "tuple", data := .seq its n }) (z : its.size ≤ 1000) (r : Vals xs its.toList) : KTu K a xs := fun H => .inr ⟨_, its, n, e, rfl, rfl, small_le z, r⟩
/-! ### objects that may change -/
/-- all stays but what stands at these places -/
def KeepE (E : List Addr) (H H' : Hp) : Prop := ∀ b o, b ∉ E → H b = some o → H' b = some o
theorem KeepE.refl (E : List Addr) (H : Hp) : KeepE E H H := fun _ _ _ h => h
theorem KeepE.trans {E : List Addr} {H H1 H2 : Hp} (a : KeepE E H H1) (b : KeepE E H1 H2) : KeepE E H H2 := fun c o n h => b c o n (a c o n h)
theorem KeepE.new {E : List Addr} {H : Hp} {p : Addr} {o : HO} (h : H p = none) : KeepE E H (upd H p o) := fun b u _ e => by
  rw [upd_ne (ne_of_none e h)]
  exact e
theorem KeepE.put {E : List Addr} {H : Hp} {p : Addr} {o : HO} (h : p ∈ E) : KeepE E H (upd H p o) := fun b u n e => by
  rw [upd_ne (fun z => n (by rw [z]; exact h))]
  exact e
theorem KeepE.fresh {E : List Addr} {H H' : Hp} {p : Addr} {o : HO} (k : KeepE E H H') (h : H p = none) : KeepE E H (upd H' p o) := fun b u n e => by
  rw [upd_ne (ne_of_none e h)]
  exact k b u n e
theorem KeepE.putR {E : List Addr} {H H' : Hp} {p : Addr} {o : HO} (k : KeepE E H H') (h : p ∈ E) : KeepE E H (upd H' p o) := k.trans (KeepE.put h)
theorem Same.keepE {E : List Addr} {H H' : Hp} (s : Same H H') : KeepE E H H' := fun b o _ h => s b o h
theorem KeepE.mono {E F : List Addr} {H H' : Hp} (k : KeepE E H H') (h : ∀ a ∈ E, a ∈ F) : KeepE F H H' := fun b o n e => k b o (fun z => n (h b z)) e
/-- what the first heap did not know may change -/
theorem KeepE.same {E : List Addr} {H H' : Hp} (k : KeepE E H H') (h : ∀ a ∈ E, H a = none) : Same H H' := fun b o e => k b o (fun z => by rw [h b z] at e; cases e) e
/-- no tuple, nothing frozen -/
def Soft (H : Hp) (a : Addr) : Prop := (∀ xs, H a ≠ some (.tup xs)) ∧ ∀ o u, H a ≠ some (.frz o u)
theorem KeepE.tk {E : List Addr} {H H' : Hp} (k : KeepE E H H') (s : ∀ a ∈ E, Soft H a) : TK H H' :=
  ⟨fun b xs e => k b _ (fun z => (s b z).1 xs e) e, fun b o u e => k b _ (fun z => (s b z).2 o u e) e⟩
theorem Soft.none {H : Hp} {a : Addr} (h : H a = none) : Soft H a := ⟨fun xs e => (by rw [h] at e; cases e), fun o u e => (by rw [h] at e; cases e)⟩
theorem Soft.dT {H : Hp} {a : Addr} {kvs : List (List Key × V)} (h : H a = some (.dT kvs)) : Soft H a := ⟨fun xs e => (by rw [h] at e; cases e), fun o u e => (by rw [h] at e; cases e)⟩
theorem Soft.ins {H : Hp} {a C dx : Addr} {fs : List (Str × V)} (h : H a = some (.ins C dx fs)) : Soft H a := ⟨fun xs e => (by rw [h] at e; cases e), fun o u e => (by rw [h] at e; cases e)⟩
theorem Soft.lst {H : Hp} {a : Addr} {xs : List V} (h : H a = some (.lst xs)) : Soft H a := ⟨fun xs e => (by rw [h] at e; cases e), fun o u e => (by rw [h] at e; cases e)⟩
theorem KeepE.back {E : List Addr} {H H' : Hp} {p : Addr} (k : KeepE E H H') (h : H' p = none) (n : p ∉ E) : H p = none := by
  cases e : H p with
  | none => rfl
  | some o =>
    rw [k p o n e] at h
    cases h
theorem Same.back {H H' : Hp} {p : Addr} (k : Same H H') (h : H' p = none) : H p = none := by
  cases e : H p with
  | none => rfl
  | some o =>
    rw [k p o e] at h
    cases h
/-! ### slices -/
theorem sl32 {a b c : V} : ¬ (HT.sIx ([a, b, c] : List V).length 0 none = 0 ∧ HT.sIx ([a, b, c] : List V).length ([a, b, c] : List V).length (some 2) = ([a, b, c] : List V).length) := by
  show ¬ (HT.sIx 3 0 none = 0 ∧ HT.sIx 3 3 (some 2) = 3)
  decide
theorem sl42 {a b c d : V} : ¬ (HT.sIx ([a, b, c, d] : List V).length 0 none = 0 ∧ HT.sIx ([a, b, c, d] : List V).length ([a, b, c, d] : List V).length (some 2) = ([a, b, c, d] : List V).length) := by
  show ¬ (HT.sIx 4 0 none = 0 ∧ HT.sIx 4 4 (some 2) = 4)
  decide
/-! ### readings of tuples -/
section
variable {K : PySem.W.Frag} {H : Hp}
theorem Tp.int4 {v : V} {i j k l : Int} (h : Tp K H v (.tuple [.int i, .int j, .int k, .int l])) : ∃ a, v = .ref a ∧ SqT K H a [.int i, .int j, .int k, .int l] := by
  obtain ⟨a, xs, rfl, hs, h⟩ := h.tupI
  obtain ⟨x, _, rfl, h1, h⟩ := h.consI
  obtain ⟨y, _, rfl, h2, h⟩ := h.consI
  obtain ⟨z, _, rfl, h3, h⟩ := h.consI
  obtain ⟨u, _, rfl, h4, h⟩ := h.consI
  rw [h1.intI, h2.intI, h3.intI, h4.intI, h.nilI] at hs
  exact ⟨a, rfl, hs⟩
theorem Tp.int2 {v : V} {i j : Int} (h : Tp K H v (.tuple [.int i, .int j])) : ∃ a, v = .ref a ∧ SqT K H a [.int i, .int j] := by
  obtain ⟨a, xs, rfl, hs, h⟩ := h.tupI
  obtain ⟨x, _, rfl, h1, h⟩ := h.consI
  obtain ⟨y, _, rfl, h2, h⟩ := h.consI
  rw [h1.intI, h2.intI, h.nilI] at hs
  exact ⟨a, rfl, hs⟩
theorem Tp.of_ints {a : Addr} : ∀ {ks : List Int}, SqT K H a (ks.map V.int) → Tp K H (.ref a) (.tuple (ks.map PyData.int)) := fun {ks} h => by
  refine .tup h ?_
  clear h
  induction ks with
  | nil => exact .nil
  | cons k ks ih => exact .cons (.int k) ih
end
/-! ### cells: places and their colours, as a dict keeps them -/
abbrev Pt := Int × Int
abbrev CM := List (Pt × Int)
def ptK (p : Pt) : List Key := [Sum.inl p.1, Sum.inl p.2]
theorem ptK_inj {p q : Pt} (h : ptK p = ptK q) : p = q := by
  obtain ⟨a, b⟩ := p
  obtain ⟨c, d⟩ := q
  have e1 := List.cons.inj h
  have e2 := List.cons.inj e1.2
  have q1 : a = c := Sum.inl.inj e1.1
  have q2 : b = d := Sum.inl.inj e2.1
  rw [q1, q2]
theorem ptK_v (p : Pt) : (ptK p).map kV = [V.int p.1, V.int p.2] := rfl
def look : CM → Pt → Option Int
  | [], _ => none
  | e :: r, p => if e.1 = p then some e.2 else look r p
def putM : CM → Pt → Int → CM
  | [], p, c => [(p, c)]
  | e :: r, p, c => if e.1 = p then (e.1, c) :: r else e :: putM r p c
def dropM : CM → Pt → CM
  | [], _ => []
  | e :: r, p => if e.1 = p then r else e :: dropM r p
def cellK (m : CM) : List (List Key × V) := m.map fun e => (ptK e.1, V.int e.2)
def col (m : CM) (p : Pt) : Int := (look m p).getD 0
theorem look_none : ∀ {m : CM} {p : Pt}, look m p = none ↔ p ∉ m.map (·.1)
  | [], p => by simp [look]
  | e :: r, p => by
    rw [List.map_cons, List.mem_cons]
    unfold look
    by_cases h : e.1 = p
    · rw [if_pos h]
      simp [h]
    · rw [if_neg h, look_none]
      exact ⟨fun x y => y.elim (fun z => h z.symm) x, fun x y => x (.inr y)⟩
theorem look_mem : ∀ {m : CM} {p : Pt} {c : Int}, look m p = some c → (p, c) ∈ m
  | [], p, c, h => nomatch h
  | e :: r, p, c, h => by
    unfold look at h
    by_cases q : e.1 = p
    · rw [if_pos q] at h
      rw [← q, ← Option.some.inj h]
      exact List.mem_cons_self
    · rw [if_neg q] at h
      exact List.mem_cons_of_mem _ (look_mem h)
theorem mem_look : ∀ {m : CM} {p : Pt} {c : Int}, (m.map (·.1)).Nodup → (p, c) ∈ m → look m p = some c
  | [], p, c, _, h => nomatch h
  | e :: r, p, c, nd, h => by
    rw [List.map_cons, List.nodup_cons] at nd
    unfold look
    rcases List.mem_cons.mp h with rfl | h
    · exact if_pos rfl
    · have q : e.1 ≠ p := fun z => nd.1 (z ▸ List.mem_map.mpr ⟨_, h, rfl⟩)
      rw [if_neg q]
      exact mem_look nd.2 h
theorem look_put : ∀ (m : CM) (p q : Pt) (c : Int), look (putM m p c) q = if q = p then some c else look m q
  | [], p, q, c => by
    show (if p = q then some c else none) = _
    by_cases h : q = p
    · rw [if_pos h, if_pos h.symm]
    · rw [if_neg h, if_neg (fun z => h z.symm)]
      rfl
  | e :: r, p, q, c => by
    unfold putM
    by_cases h : e.1 = p
    · rw [if_pos h]
      unfold look
      by_cases hq : q = p
      · rw [if_pos hq, if_pos (h.trans hq.symm)]
      · rw [if_neg hq, if_neg (fun z => hq (z.symm.trans h)), if_neg (fun z => hq (z.symm.trans h))]
    · rw [if_neg h]
      unfold look
      by_cases he : e.1 = q
      · rw [if_pos he, if_pos he, if_neg (fun z => h (he.trans z))]
      · rw [if_neg he, if_neg he, look_put r p q c]
theorem keys_put : ∀ {m : CM} {p q : Pt} {c : Int}, q ∈ (putM m p c).map (·.1) → q = p ∨ q ∈ m.map (·.1)
  | m, p, q, c, h => by
    by_cases e : q = p
    · exact .inl e
    · refine .inr (Classical.byContradiction fun n => ?_)
      have z := look_put m p q c
      rw [if_neg e, look_none.mpr n] at z
      exact look_none.mp z h
theorem nd_put : ∀ {m : CM} (p : Pt) (c : Int), (m.map (·.1)).Nodup → ((putM m p c).map (·.1)).Nodup
  | [], p, c, _ => List.nodup_cons.mpr ⟨List.not_mem_nil, List.nodup_nil⟩
  | e :: r, p, c, nd => by
    rw [List.map_cons, List.nodup_cons] at nd
    unfold putM
    by_cases h : e.1 = p
    · rw [if_pos h, List.map_cons, List.nodup_cons]
      exact nd
    · rw [if_neg h, List.map_cons, List.nodup_cons]
      exact ⟨fun z => (keys_put z).elim h nd.1, nd_put p c nd.2⟩
theorem len_put : ∀ (m : CM) (p : Pt) (c : Int), (putM m p c).length ≤ m.length + 1
  | [], _, _ => Nat.le_refl _
  | e :: r, p, c => by
    unfold putM
    have := len_put r p c
    split <;> simp only [List.length_cons] <;> omega
theorem look_drop : ∀ {m : CM} (p q : Pt), (m.map (·.1)).Nodup → look (dropM m p) q = if q = p then none else look m q
  | [], p, q, _ => by
    show (none : Option Int) = if q = p then none else none
    split <;> rfl
  | e :: r, p, q, nd => by
    rw [List.map_cons, List.nodup_cons] at nd
    unfold dropM
    by_cases h : e.1 = p
    · rw [if_pos h]
      by_cases hq : q = p
      · rw [if_pos hq, hq]
        exact look_none.mpr (h ▸ nd.1)
      · rw [if_neg hq]
        conv => rhs; unfold look
        rw [if_neg (fun z => hq (z.symm.trans h))]
    · rw [if_neg h]
      unfold look
      by_cases he : e.1 = q
      · rw [if_pos he, if_pos he, if_neg (fun z => h (he.trans z))]
      · rw [if_neg he, if_neg he, look_drop p q nd.2]
theorem keys_drop : ∀ {m : CM} {p q : Pt}, q ∈ (dropM m p).map (·.1) → q ∈ m.map (·.1)
  | e :: r, p, q, h => by
    unfold dropM at h
    by_cases z : e.1 = p
    · rw [if_pos z] at h
      exact List.mem_cons_of_mem _ h
    · rw [if_neg z] at h
      rcases List.mem_cons.mp h with e2 | h
      · exact List.mem_cons.mpr (.inl e2)
      · exact List.mem_cons_of_mem _ (keys_drop h)
theorem nd_drop : ∀ {m : CM} (p : Pt), (m.map (·.1)).Nodup → ((dropM m p).map (·.1)).Nodup
  | [], p, _ => List.nodup_nil
  | e :: r, p, nd => by
    rw [List.map_cons, List.nodup_cons] at nd
    unfold dropM
    by_cases h : e.1 = p
    · rw [if_pos h]
      exact nd.2
    · rw [if_neg h, List.map_cons, List.nodup_cons]
      exact ⟨fun z => nd.1 (keys_drop z), nd_drop p nd.2⟩
theorem len_drop : ∀ (m : CM) (p : Pt), (dropM m p).length ≤ m.length
  | [], _ => Nat.le_refl _
  | e :: r, p => by
    unfold dropM
    have := len_drop r p
    split <;> simp only [List.length_cons] <;> omega
theorem cell_len (m : CM) : (cellK m).length = m.length := List.length_map _
theorem cell_val : ∀ (m : CM) (p : Pt), valV (cellK m) (ptK p) = (look m p).map V.int
  | [], _ => rfl
  | e :: r, p => by
    unfold look
    by_cases h : e.1 = p
    · rw [if_pos h]
      exact valV_pos (p := (ptK e.1, V.int e.2)) (congrArg ptK h)
    · rw [if_neg h]
      exact (valV_neg (p := (ptK e.1, V.int e.2)) (fun z => h (ptK_inj z))).trans (cell_val r p)
theorem cell_map (p : Pt) (c : Int) : ∀ (m : CM), (m.map (·.1)).Nodup → p ∈ m.map (·.1) → (cellK m).map (fun kv => if kv.1 = ptK p then (kv.1, V.int c) else kv) = cellK (putM m p c)
  | [], _, h => nomatch h
  | e :: r, nd, h => by
    rw [List.map_cons, List.nodup_cons] at nd
    show (if ptK e.1 = ptK p then (ptK e.1, V.int c) else (ptK e.1, V.int e.2)) :: (cellK r).map _ = _
    unfold putM
    by_cases q : e.1 = p
    · rw [if_pos q, if_pos (congrArg ptK q)]
      have nin : p ∉ r.map (·.1) := q ▸ nd.1
      have same : (cellK r).map (fun kv => if kv.1 = ptK p then (kv.1, V.int c) else kv) = cellK r := by
        unfold cellK
        rw [List.map_map]
        refine List.map_congr_left fun y hy => ?_
        show (if ptK y.1 = ptK p then _ else _) = _
        rw [if_neg (fun z => nin (by rw [← ptK_inj z]; exact List.mem_map.mpr ⟨y, hy, rfl⟩))]
      rw [same]
      rfl
    · rw [if_neg q, if_neg (fun z => q (ptK_inj z))]
      rcases List.mem_cons.mp (show p ∈ e.1 :: r.map (·.1) from h) with z | z
      · exact absurd z.symm q
      · rw [cell_map p c r nd.2 z]
        rfl
theorem cell_new (p : Pt) (c : Int) : ∀ (m : CM), p ∉ m.map (·.1) → cellK m ++ [(ptK p, V.int c)] = cellK (putM m p c)
  | [], _ => rfl
  | e :: r, h => by
    unfold putM
    rw [if_neg (fun z => h (List.mem_cons.mpr (.inl z.symm)))]
    show (ptK e.1, V.int e.2) :: (cellK r ++ _) = (ptK e.1, V.int e.2) :: cellK (putM r p c)
    rw [cell_new p c r fun z => h (List.mem_cons_of_mem _ z)]
theorem cell_put {m : CM} (p : Pt) (c : Int) (nd : (m.map (·.1)).Nodup) : putK (cellK m) (ptK p) (.int c) = cellK (putM m p c) := by
  unfold putK
  rw [valV_any, cell_val]
  cases e : look m p with
  | none => exact cell_new p c m (look_none.mp e)
  | some x =>
    refine cell_map p c m nd (Classical.byContradiction fun n => ?_)
    rw [look_none.mpr n] at e
    cases e
theorem cell_drop (p : Pt) : ∀ (m : CM), (m.map (·.1)).Nodup → dropK (cellK m) (ptK p) = cellK (dropM m p)
  | [], _ => rfl
  | e :: r, nd => by
    rw [List.map_cons, List.nodup_cons] at nd
    unfold dropM
    show dropK ((ptK e.1, V.int e.2) :: cellK r) (ptK p) = _
    by_cases h : e.1 = p
    · rw [if_pos h, dropK_pos (congrArg ptK h)]
      refine dropK_no fun z => ?_
      obtain ⟨y, hy, ey⟩ := List.mem_map.mp z
      obtain ⟨w, hw, rfl⟩ := List.mem_map.mp hy
      have nin : p ∉ r.map (·.1) := h ▸ nd.1
      have ew : w.1 = p := ptK_inj ey
      exact nin (by rw [← ew]; exact List.mem_map.mpr ⟨w, hw, rfl⟩)
    · rw [if_neg h, dropK_neg (fun z => h (ptK_inj z)), cell_drop p r nd.2]
      rfl
/-! ### floors -/
abbrev Sq := Int × Int × Int
def Sq.pt (s : Sq) : Pt := (s.1, s.2.1)
def sqD (s : Sq) : PyData := .tuple [.int s.1, .int s.2.1, .int s.2.2]
def floorD (F : List Sq) : PyData := .tuple (F.map sqD)
def ltP (p q : Pt) : Prop := p.1 < q.1 ∨ (p.1 = q.1 ∧ p.2 < q.2)
theorem ltP_irr (p : Pt) : ¬ ltP p p := fun h => by
  rcases h with h | h <;> omega
theorem ltP_tr {p q r : Pt} (a : ltP p q) (b : ltP q r) : ltP p r := by
  unfold ltP at *
  omega
theorem ltP_tot {p q : Pt} (h : p ≠ q) : ltP p q ∨ ltP q p := by
  by_cases e1 : p.1 = q.1
  · have e2 : p.2 ≠ q.2 := fun e2 => h (Prod.ext e1 e2)
    unfold ltP
    omega
  · unfold ltP
    omega
/-- the floor that is painted so, its squares in their order -/
structure FloorOf (f : Pt → Int) (F : List Sq) : Prop where
  asc : F.Pairwise fun a b => ltP a.pt b.pt
  mem : ∀ s : Sq, s ∈ F ↔ s.2.2 = f s.pt ∧ s.2.2 ≠ 0
theorem asc_eq : ∀ {F G : List Sq}, (F.Pairwise fun a b => ltP a.pt b.pt) → (G.Pairwise fun a b => ltP a.pt b.pt) → (∀ s, s ∈ F ↔ s ∈ G) → F = G
  | [], [], _, _, _ => rfl
  | [], b :: G, _, _, h => nomatch (h b).mpr List.mem_cons_self
  | a :: F, [], _, _, h => nomatch (h a).mp List.mem_cons_self
  | a :: F, b :: G, hF, hG, h => by
    obtain ⟨a1, a2⟩ := List.pairwise_cons.mp hF
    obtain ⟨b1, b2⟩ := List.pairwise_cons.mp hG
    have e : a = b := by
      rcases List.mem_cons.mp ((h a).mp List.mem_cons_self) with e | ha
      · exact e
      · rcases List.mem_cons.mp ((h b).mpr List.mem_cons_self) with e | hb
        · exact e.symm
        · exact absurd (ltP_tr (b1 a ha) (a1 b hb)) (ltP_irr _)
    subst e
    refine congrArg (a :: ·) (asc_eq a2 b2 fun s => ⟨fun hs => ?_, fun hs => ?_⟩)
    · rcases List.mem_cons.mp ((h s).mp (List.mem_cons_of_mem _ hs)) with e | k
      · exact absurd (e ▸ a1 s hs) (ltP_irr _)
      · exact k
    · rcases List.mem_cons.mp ((h s).mpr (List.mem_cons_of_mem _ hs)) with e | k
      · exact absurd (e ▸ b1 s hs) (ltP_irr _)
      · exact k
theorem FloorOf.uniq {f : Pt → Int} {F G : List Sq} (a : FloorOf f F) (b : FloorOf f G) : F = G := asc_eq a.asc b.asc fun s => (a.mem s).trans (b.mem s).symm
/-- the cells of a floor -/
def cellsOf (F : List Sq) : CM := F.map fun s => (s.pt, s.2.2)
theorem asc_nd {F : List Sq} (h : F.Pairwise fun a b => ltP a.pt b.pt) : ((cellsOf F).map (·.1)).Nodup := by
  unfold cellsOf
  rw [List.map_map, List.Nodup, List.pairwise_map]
  refine h.imp fun {a b} l => ?_
  intro (e : a.pt = b.pt)
  rw [← e] at l
  exact ltP_irr _ l
def colF (F : List Sq) (p : Pt) : Int := col (cellsOf F) p
theorem colF_of {F : List Sq} (asc : F.Pairwise fun a b => ltP a.pt b.pt) (nz : ∀ s ∈ F, s.2.2 ≠ 0) : FloorOf (colF F) F := by
  refine ⟨asc, fun s => ⟨fun h => ⟨?_, nz s h⟩, fun h => ?_⟩⟩
  · have e := mem_look (asc_nd asc) (show (s.pt, s.2.2) ∈ cellsOf F from List.mem_map.mpr ⟨s, h, rfl⟩)
    unfold colF col
    rw [e]
    rfl
  · obtain ⟨h1, h2⟩ := h
    unfold colF col at h1
    cases e : look (cellsOf F) s.pt with
    | none =>
      rw [e] at h1
      exact absurd h1 h2
    | some c =>
      rw [e] at h1
      obtain ⟨t, ht, et⟩ := List.mem_map.mp (look_mem e)
      have e1 : t.pt = s.pt := congrArg Prod.fst et
      have e2 : t.2.2 = c := congrArg Prod.snd et
      have e3 : t = s := by
        obtain ⟨x, y, z⟩ := t
        obtain ⟨x', y', z'⟩ := s
        have q1 : x = x' := congrArg Prod.fst e1
        have q2 : y = y' := congrArg Prod.snd e1
        have q3 : z = c := e2
        have q4 : z' = c := h1
        rw [q1, q2, q3, q4]
      exact e3 ▸ ht
theorem FloorOf.col {f : Pt → Int} {F : List Sq} (h : FloorOf f F) : colF F = f := by
  funext p
  have g := colF_of h.asc fun s hs => ((h.mem s).mp hs).2
  by_cases z : f p = 0
  · by_cases y : colF F p = 0
    · rw [y, z]
    · have m := (g.mem (p.1, p.2, colF F p)).mpr ⟨rfl, y⟩
      have q := ((h.mem _).mp m).1
      exact q
  · have m := (h.mem (p.1, p.2, f p)).mpr ⟨rfl, z⟩
    exact (((g.mem _).mp m).1).symm
local macro_rules | `(tactic| walk_at "cl") => `(tactic| first | assumption | omega | exact rfl | exact SqL.of (by assumption) | exact SqT.of (by assumption) | exact SqL.of upd_same | exact SqT.of upd_same | exact upd_same | exact tyx_tup (by assumption) | exact TyX.base (.int _) | exact TyX.base (.str _) | exact TyX.base .non | exact TyX.base (.bl _) | exact tyx_lst (by first | assumption | exact SqL.of (by assumption)) | exact at0 | exact at1 | exact at2 | exact at3 | exact ⟨_, by assumption⟩ | exact ⟨_, rfl⟩ | exact ⟨_, SqL.of (by assumption)⟩ | exact ⟨_, SqL.of upd_same⟩ | exact ⟨_, SqT.of (by assumption)⟩ | exact Nat.le_of_ble_eq_true rfl | exact Or.inl ⟨rfl, _, SqL.of (by assumption)⟩ | exact Or.inl ⟨rfl, _, SqL.of upd_same⟩ | exact Dp.non | exact Dp.int _ | exact Dp.bl _ | exact Dp.str _ | exact True.intro | solve_by_elim | decide)
local macro_rules | `(tactic| walk_at "lp") => `(tactic| (fail_if_success refine Exists.intro (w := (fun (_ : Nat) (_ : Nat) (_ : L2.St) (_ : Hp) => True)) ?_); (fail_if_success refine Exists.intro (w := (fun (_ : Nat) (_ : L2.St) (_ : Hp) => True)) ?_); (fail_if_success refine Exists.intro (w := (fun (_ : Nat) (_ : Nat) (_ : Hp) => True)) ?_))
local macro_rules | `(tactic| walk_at "st") => `(tactic| repeat (first | (apply And.intro; (· walk_at "cl")) | (walk_at "lp"; apply Exists.intro)))
local macro_rules | `(tactic| walk_at "cl") => `(tactic| first | exact sl32 | exact sl42)
def topS (i : Nat) : Stmt := PySem.Challenge.pw_streetpapers_k09_across_corners.main.body.getD i (.Pass ⟨0, 0, 0, 0⟩)
abbrev s_u_wall : Stmt := topS 0
theorem sc_u_wall : FnScope ["k"] ["k"] (defScope s_u_wall) := ⟨rfl, rfl, rfl, by decide +kernel, rfl, by decide +kernel, by decide +kernel⟩
abbrev s_is_whole : Stmt := topS 12
theorem sc_is_whole : FnScope ["value", "least", "greatest"] ["value", "least", "greatest"] (defScope s_is_whole) := ⟨rfl, rfl, rfl, by decide +kernel, rfl, by decide +kernel, by decide +kernel⟩
abbrev s_is_place : Stmt := topS 13
theorem sc_is_place : FnScope ["value"] ["value"] (defScope s_is_place) := ⟨rfl, rfl, rfl, by decide +kernel, rfl, by decide +kernel, by decide +kernel⟩
abbrev s_check_number : Stmt := topS 14
theorem sc_check_number : FnScope ["value", "least", "greatest"] ["value", "least", "greatest"] (defScope s_check_number) := ⟨rfl, rfl, rfl, by decide +kernel, rfl, by decide +kernel, by decide +kernel⟩
abbrev s_check_table : Stmt := topS 19
theorem sc_check_table : FnScope ["value"] ["value"] (defScope s_check_table) := ⟨rfl, rfl, rfl, by decide +kernel, rfl, by decide +kernel, by decide +kernel⟩
abbrev s_is_table : Stmt := topS 20
theorem sc_is_table : FnScope ["value", "state", "entry"] ["value"] (defScope s_is_table) := ⟨rfl, rfl, rfl, by decide +kernel, rfl, by decide +kernel, by decide +kernel⟩
abbrev s_u_is_entry : Stmt := topS 21
theorem sc_u_is_entry : FnScope ["value", "colours", "states", "paint", "turn", "state"] ["value", "colours", "states"] (defScope s_u_is_entry) := ⟨rfl, rfl, rfl, by decide +kernel, rfl, by decide +kernel, by decide +kernel⟩
abbrev s_box : Stmt := topS 27
theorem sc_box : FnScope ["floor", "square"] ["floor"] (defScope s_box) := ⟨rfl, rfl, rfl, by decide +kernel, rfl, by decide +kernel, by decide +kernel⟩
abbrev s_write_floor : Stmt := topS 28
theorem sc_write_floor : FnScope ["floor", "edges", "left", "top", "right", "bottom", "rows", "x", "y", "colour", "_", "row"] ["floor"] (defScope s_write_floor) := ⟨rfl, rfl, rfl, by decide +kernel, rfl, by decide +kernel, by decide +kernel⟩
abbrev s_check_floor : Stmt := topS 29
theorem sc_check_floor : FnScope ["value", "colours", "index", "square"] ["value", "colours"] (defScope s_check_floor) := ⟨rfl, rfl, rfl, by decide +kernel, rfl, by decide +kernel, by decide +kernel⟩
abbrev s_painted_places : Stmt := topS 30
theorem sc_painted_places : FnScope ["floor", "x", "y", "colour"] ["floor"] (defScope s_painted_places) := ⟨rfl, rfl, rfl, by decide +kernel, rfl, by decide +kernel, by decide +kernel⟩
abbrev s_floor_of : Stmt := topS 31
theorem sc_floor_of : FnScope ["painted", "x", "y"] ["painted"] (defScope s_floor_of) := ⟨rfl, rfl, rfl, by decide +kernel, rfl, by decide +kernel, by decide +kernel⟩
abbrev s_box_of : Stmt := topS 32
theorem sc_box_of : FnScope ["places", "xs", "ys", "x", "_", "y"] ["places"] (defScope s_box_of) := ⟨rfl, rfl, rfl, by decide +kernel, rfl, by decide +kernel, by decide +kernel⟩
abbrev s_paint_square : Stmt := topS 33
theorem sc_paint_square : FnScope ["painted", "place", "colour"] ["painted", "place", "colour"] (defScope s_paint_square) := ⟨rfl, rfl, rfl, by decide +kernel, rfl, by decide +kernel, by decide +kernel⟩
abbrev s_u_is_square : Stmt := topS 34
theorem sc_u_is_square : FnScope ["value", "colours"] ["value", "colours"] (defScope s_u_is_square) := ⟨rfl, rfl, rfl, by decide +kernel, rfl, by decide +kernel, by decide +kernel⟩
abbrev s_u_row_text : Stmt := topS 35
theorem sc_u_row_text : FnScope ["row", "runs", "end", "x", "colour", "many", "sign"] ["row"] (defScope s_u_row_text) := ⟨rfl, rfl, rfl, by decide +kernel, rfl, by decide +kernel, by decide +kernel⟩
abbrev s_check_stand : Stmt := topS 38
theorem sc_check_stand : FnScope ["table", "floor", "walker"] ["table", "floor", "walker"] (defScope s_check_stand) := ⟨rfl, rfl, rfl, by decide +kernel, rfl, by decide +kernel, by decide +kernel⟩
abbrev s_check_walker : Stmt := topS 39
theorem sc_check_walker : FnScope ["value", "states"] ["value", "states"] (defScope s_check_walker) := ⟨rfl, rfl, rfl, by decide +kernel, rfl, by decide +kernel, by decide +kernel⟩
abbrev s_is_walker : Stmt := topS 40
theorem sc_is_walker : FnScope ["value", "states"] ["value", "states"] (defScope s_is_walker) := ⟨rfl, rfl, rfl, by decide +kernel, rfl, by decide +kernel, by decide +kernel⟩
abbrev s_u_walker_behind : Stmt := topS 42
theorem sc_u_walker_behind : FnScope ["walker", "entry", "x", "y", "heading", "_", "turn", "state", "dx", "dy"] ["walker", "entry"] (defScope s_u_walker_behind) := ⟨rfl, rfl, rfl, by decide +kernel, rfl, by decide +kernel, by decide +kernel⟩
abbrev s_write_walker : Stmt := topS 44
theorem sc_write_walker : FnScope ["walker", "part"] ["walker"] (defScope s_write_walker) := ⟨rfl, rfl, rfl, by decide +kernel, rfl, by decide +kernel, by decide +kernel⟩
abbrev s_u_trail_text : Stmt := topS 50
theorem sc_u_trail_text : FnScope ["length", "floor", "walker", "text", "x", "y"] ["length", "floor", "walker"] (defScope s_u_trail_text) := ⟨rfl, rfl, rfl, by decide +kernel, rfl, by decide +kernel, by decide +kernel⟩
abbrev s_never_bounded : Stmt := topS 54
theorem sc_never_bounded : FnScope ["table", "colours"] ["table"] (defScope s_never_bounded) := ⟨rfl, rfl, rfl, by decide +kernel, rfl, by decide +kernel, by decide +kernel⟩
abbrev s_u_check_turning : Stmt := topS 55
theorem sc_u_check_turning : FnScope ["table", "_", "turn", "paint"] ["table"] (defScope s_u_check_turning) := ⟨rfl, rfl, rfl, by decide +kernel, rfl, by decide +kernel, by decide +kernel⟩
abbrev s_u_rounds : Stmt := topS 56
theorem sc_u_rounds : FnScope ["table", "rounds", "known", "least", "colours", "colour"] ["table"] (defScope s_u_rounds) := ⟨rfl, rfl, rfl, by decide +kernel, rfl, by decide +kernel, by decide +kernel⟩
abbrev s_u_turns_both_ways : Stmt := topS 57
theorem sc_u_turns_both_ways : FnScope ["table", "colours", "turns", "colour"] ["table", "colours"] (defScope s_u_turns_both_ways) := ⟨rfl, rfl, rfl, by decide +kernel, rfl, by decide +kernel, by decide +kernel⟩
abbrev s_law_taken : Stmt := topS 59
theorem sc_law_taken : FnScope ["row", "many", "found", "cell"] ["row", "many"] (defScope s_law_taken) := ⟨rfl, rfl, rfl, by decide +kernel, rfl, by decide +kernel, by decide +kernel⟩
abbrev s_law_pick : Stmt := topS 60
theorem sc_law_pick : FnScope ["row", "things"] ["row", "things"] (defScope s_law_pick) := ⟨rfl, rfl, rfl, by decide +kernel, rfl, by decide +kernel, by decide +kernel⟩
abbrev s_law_turning_table : Stmt := topS 61
theorem sc_law_turning_table : FnScope ["row", "colours", "found", "left", "colour"] ["row"] (defScope s_law_turning_table) := ⟨rfl, rfl, rfl, by decide +kernel, rfl, by decide +kernel, by decide +kernel⟩
abbrev s_law_signed : Stmt := topS 62
theorem sc_law_signed : FnScope ["row", "most"] ["row", "most"] (defScope s_law_signed) := ⟨rfl, rfl, rfl, by decide +kernel, rfl, by decide +kernel, by decide +kernel⟩
abbrev s_law_some_floor : Stmt := topS 63
theorem sc_law_some_floor : FnScope ["row", "colours", "most", "cells", "turn", "place"] ["row", "colours", "most"] (defScope s_law_some_floor) := ⟨rfl, rfl, rfl, by decide +kernel, rfl, by decide +kernel, by decide +kernel⟩
abbrev s_law_walker : Stmt := topS 64
theorem sc_law_walker : FnScope ["row", "table"] ["row", "table"] (defScope s_law_walker) := ⟨rfl, rfl, rfl, by decide +kernel, rfl, by decide +kernel, by decide +kernel⟩
abbrev s_law_power : Stmt := topS 65
theorem sc_law_power : FnScope ["number", "many", "found", "turn"] ["number", "many"] (defScope s_law_power) := ⟨rfl, rfl, rfl, by decide +kernel, rfl, by decide +kernel, by decide +kernel⟩
abbrev s_law : Stmt := topS 66
theorem sc_law : FnScope ["script", "row", "table", "floor", "walker", "trail", "many", "ways", "seen", "step", "here", "level", "floors", "columns", "lines", "squares", "place"] ["script"] (defScope s_law) := ⟨rfl, rfl, rfl, by decide +kernel, rfl, by decide +kernel, by decide +kernel⟩
abbrev s_BadFloor_init : Stmt := inClass (topS 4) 0
theorem sc_BadFloor_init : FnScope ["self", "index"] ["self", "index"] (defScope s_BadFloor_init) := ⟨rfl, rfl, rfl, by decide +kernel, rfl, by decide +kernel, by decide +kernel⟩
abbrev s_TooMany_init : Stmt := inClass (topS 9) 0
theorem sc_TooMany_init : FnScope ["self", "most"] ["self", "most"] (defScope s_TooMany_init) := ⟨rfl, rfl, rfl, by decide +kernel, rfl, by decide +kernel, by decide +kernel⟩
abbrev s_Stroll_init : Stmt := inClass (topS 41) 0
theorem sc_Stroll_init : FnScope ["self", "table", "floor", "walker", "ground"] ["self", "table", "floor", "walker", "ground"] (defScope s_Stroll_init) := ⟨rfl, rfl, rfl, by decide +kernel, rfl, by decide +kernel, by decide +kernel⟩
abbrev s_Stroll_colour_of : Stmt := inClass (topS 41) 1
theorem sc_Stroll_colour_of : FnScope ["self", "place"] ["self", "place"] (defScope s_Stroll_colour_of) := ⟨rfl, rfl, rfl, by decide +kernel, rfl, by decide +kernel, by decide +kernel⟩
abbrev s_Stroll_paint : Stmt := inClass (topS 41) 2
theorem sc_Stroll_paint : FnScope ["self", "place", "colour"] ["self", "place", "colour"] (defScope s_Stroll_paint) := ⟨rfl, rfl, rfl, by decide +kernel, rfl, by decide +kernel, by decide +kernel⟩
abbrev s_Stroll_reading : Stmt := inClass (topS 41) 3
theorem sc_Stroll_reading : FnScope ["self"] ["self"] (defScope s_Stroll_reading) := ⟨rfl, rfl, rfl, by decide +kernel, rfl, by decide +kernel, by decide +kernel⟩
abbrev s_Stroll_has_stopped : Stmt := inClass (topS 41) 4
theorem sc_Stroll_has_stopped : FnScope ["self"] ["self"] (defScope s_Stroll_has_stopped) := ⟨rfl, rfl, rfl, by decide +kernel, rfl, by decide +kernel, by decide +kernel⟩
abbrev s_Stroll_go : Stmt := inClass (topS 41) 5
theorem sc_Stroll_go : FnScope ["self", "many", "told", "_", "place", "colour", "entry"] ["self", "many"] (defScope s_Stroll_go) := ⟨rfl, rfl, rfl, by decide +kernel, rfl, by decide +kernel, by decide +kernel⟩
abbrev s_Record_init : Stmt := inClass (topS 46) 0
theorem sc_Record_init : FnScope ["self", "table", "floor", "walker", "x", "y", "colour"] ["self", "table", "floor", "walker"] (defScope s_Record_init) := ⟨rfl, rfl, rfl, by decide +kernel, rfl, by decide +kernel, by decide +kernel⟩
abbrev s_Record_length : Stmt := inClass (topS 46) 1
theorem sc_Record_length : FnScope ["self"] ["self"] (defScope s_Record_length) := ⟨rfl, rfl, rfl, by decide +kernel, rfl, by decide +kernel, by decide +kernel⟩
abbrev s_Record_lasts : Stmt := inClass (topS 46) 2
theorem sc_Record_lasts : FnScope ["self", "step", "told", "walker", "_", "paint"] ["self", "step"] (defScope s_Record_lasts) := ⟨rfl, rfl, rfl, by decide +kernel, rfl, by decide +kernel, by decide +kernel⟩
abbrev s_Record_walker_behind : Stmt := inClass (topS 46) 3
theorem sc_Record_walker_behind : FnScope ["self", "step"] ["self", "step"] (defScope s_Record_walker_behind) := ⟨rfl, rfl, rfl, by decide +kernel, rfl, by decide +kernel, by decide +kernel⟩
abbrev s_Record_painted_behind : Stmt := inClass (topS 46) 4
theorem sc_Record_painted_behind : FnScope ["self", "step"] ["self", "step"] (defScope s_Record_painted_behind) := ⟨rfl, rfl, rfl, by decide +kernel, rfl, by decide +kernel, by decide +kernel⟩
abbrev s_Record_colour_behind : Stmt := inClass (topS 46) 5
theorem sc_Record_colour_behind : FnScope ["self", "step", "place", "since", "colour"] ["self", "step", "place"] (defScope s_Record_colour_behind) := ⟨rfl, rfl, rfl, by decide +kernel, rfl, by decide +kernel, by decide +kernel⟩
abbrev s_Record_floor_behind : Stmt := inClass (topS 46) 6
theorem sc_Record_floor_behind : FnScope ["self", "step", "colours", "place"] ["self", "step"] (defScope s_Record_floor_behind) := ⟨rfl, rfl, rfl, by decide +kernel, rfl, by decide +kernel, by decide +kernel⟩
abbrev s_Trail_init : Stmt := inClass (topS 49) 0
theorem sc_Trail_init : FnScope ["self", "table", "floor", "walker"] ["self", "table", "floor", "walker"] (defScope s_Trail_init) := ⟨rfl, rfl, rfl, by decide +kernel, rfl, by decide +kernel, by decide +kernel⟩
abbrev s_Trail_go_on : Stmt := inClass (topS 49) 1
theorem sc_Trail_go_on : FnScope ["self", "many"] ["self", "many"] (defScope s_Trail_go_on) := ⟨rfl, rfl, rfl, by decide +kernel, rfl, by decide +kernel, by decide +kernel⟩
abbrev s_Trail_length : Stmt := inClass (topS 49) 2
theorem sc_Trail_length : FnScope ["self"] ["self"] (defScope s_Trail_length) := ⟨rfl, rfl, rfl, by decide +kernel, rfl, by decide +kernel, by decide +kernel⟩
abbrev s_Trail_walker_at : Stmt := inClass (topS 49) 3
theorem sc_Trail_walker_at : FnScope ["self", "step"] ["self", "step"] (defScope s_Trail_walker_at) := ⟨rfl, rfl, rfl, by decide +kernel, rfl, by decide +kernel, by decide +kernel⟩
abbrev s_Trail_floor_at : Stmt := inClass (topS 49) 4
theorem sc_Trail_floor_at : FnScope ["self", "step"] ["self", "step"] (defScope s_Trail_floor_at) := ⟨rfl, rfl, rfl, by decide +kernel, rfl, by decide +kernel, by decide +kernel⟩
abbrev s_Trail_back_to : Stmt := inClass (topS 49) 5
theorem sc_Trail_back_to : FnScope ["self", "step"] ["self", "step"] (defScope s_Trail_back_to) := ⟨rfl, rfl, rfl, by decide +kernel, rfl, by decide +kernel, by decide +kernel⟩
abbrev s_Trail_visits : Stmt := inClass (topS 49) 6
theorem sc_Trail_visits : FnScope ["self", "place"] ["self", "place"] (defScope s_Trail_visits) := ⟨rfl, rfl, rfl, by decide +kernel, rfl, by decide +kernel, by decide +kernel⟩
abbrev s_Trail_trodden : Stmt := inClass (topS 49) 7
theorem sc_Trail_trodden : FnScope ["self"] ["self"] (defScope s_Trail_trodden) := ⟨rfl, rfl, rfl, by decide +kernel, rfl, by decide +kernel, by decide +kernel⟩
abbrev s_Trail_write : Stmt := inClass (topS 49) 8
theorem sc_Trail_write : FnScope ["self"] ["self"] (defScope s_Trail_write) := ⟨rfl, rfl, rfl, by decide +kernel, rfl, by decide +kernel, by decide +kernel⟩
/-- what the top has left of built-in names and constants -/
structure Txt (K : PySem.W.Frag) (mg : Str → Option Value) : Prop where
  m_ValueError : mg "ValueError" = none
  m_all : mg "all" = none
  m_any : mg "any" = none
  m_bool : mg "bool" = none
  m_enumerate : mg "enumerate" = none
  m_int : mg "int" = none
  m_isinstance : mg "isinstance" = none
  m_len : mg "len" = none
  m_list : mg "list" = none
  m_max : mg "max" = none
  m_min : mg "min" = none
  m_range : mg "range" = none
  m_reversed : mg "reversed" = none
  m_set : mg "set" = none
  m_sorted : mg "sorted" = none
  m_str : mg "str" = none
  m_tuple : mg "tuple" = none
  far : ∃ t, mg "FAR" = some (.int 1000000000000000000000000000000000000000000000000000000000000 t)
  most_states : ∃ t, mg "MOST_STATES" = some (.int 10 t)
  fewest_colours : ∃ t, mg "FEWEST_COLOURS" = some (.int 2 t)
  most_colours : ∃ t, mg "MOST_COLOURS" = some (.int 6 t)
  most_squares : ∃ t, mg "MOST_SQUARES" = some (.int 4000 t)
  longest_side : ∃ t, mg "LONGEST_SIDE" = some (.int 9999 t)
  signs : ∃ t, mg "SIGNS" = some (.str ".abcde" t)
  ahead : AheadAt K mg
  most_kept : ∃ t, mg "MOST_KEPT" = some (.int 20000 t)
  right : ∃ t, mg "RIGHT" = some (.int 1 t)
  left : ∃ t, mg "LEFT" = some (.int 3 t)
section
variable {P : Program} {w : World} {K : PySem.W.Frag} {mg : Str → Option Value} {base : Heap}
theorem ok_law_taken (T : Txt K mg) (D : DefAt K mg "_law_taken" s_law_taken ["row", "many"]) : Cal P w K mg base CX0 "_law_taken" 1 ["row", "many"] (spTaken K) := by
  refine D.cal sc_law_taken (fun vs H Q E h => ?_) (fun f cdv A outer s H vs Q E hr h => ?_)
  · obtain ⟨r, many, rfl, _⟩ := h
    rfl
  · obtain ⟨r, many, rfl, ⟨t, ns, i, m, c, hrow, hS, hi, hm0, hm1, hc⟩, hp, hb, q⟩ := h
    refine ⟨_, (pss_cons (ps_if (pt_cmpR op_gt (pe_ix (k_ix_list (K := K)) (pv 0) pe_int (fun _ _ => rfl)) pe_int (nomark _)) (pss_cons (ps_set (i := 2) sc_law_taken.nd rfl (Or.inl rfl) (pe_op op_mod (pe_callTy call_int_i (by rfl) T.m_int (by decide +kernel) (pa_cons (pe_ix (k_ix_list (K := K)) (pv 0) pe_int (fun _ _ => rfl)) pa_nil)) (pv 1)))
      (pss_cons (ps_asg (pe_op op_fdivW (pe_ix (k_ix_list (K := K)) (pv 0) pe_int (fun _ _ => rfl)) (pv 1)) (pg_sub (pv 0) pe_int set_list))
      (pss_one (ps_ret (pv 2))))) pss_nil)
      (pss_cons (ps_asg (pe_op op_add (pe_ix (k_ix_list (K := K)) (pv 0) pe_int (fun _ _ => rfl)) pe_int) (pg_sub (pv 0) pe_int set_list))
      (pss_cons (ps_if (pt_cmpR op_gt (pe_ix (k_ix_list (K := K)) (pv 0) pe_int (fun _ _ => rfl)) (pe_callB (k_len_l (K := K)) (by rfl) T.m_len (by decide +kernel) (pa_cons (pe_ix (k_ix_list (K := K)) (pv 0) pe_int (fun _ _ => rfl)) pa_nil)) (nomark _)) (pss_cons (ps_asg (pe_op op_mod (pe_callTy call_int_i (by rfl) T.m_int (by decide +kernel) (pa_cons (pe_op op_add (pe_op op_mul (pe_ix (k_ix_list (K := K)) (pv 0) pe_int (fun _ _ => rfl)) pe_int) pe_int) pa_nil)) pe_int) (pg_sub (pv 0) pe_int set_list))
      (pss_one (ps_ret (pe_op op_mod (pe_callTy call_int_i (by rfl) T.m_int (by decide +kernel) (pa_cons (pe_op op_fdivW (pe_ix (k_ix_list (K := K)) (pv 0) pe_int (fun _ _ => rfl)) pe_int) pa_nil)) (pv 1))))) pss_nil)
      (pss_cons (ps_set (i := 3) sc_law_taken.nd rfl (Or.inl rfl) (pe_ix (k_ix_list (K := K)) (pe_ix (k_ix_list (K := K)) (pv 0) pe_int (fun _ _ => rfl)) (pe_op op_sub (pe_ix (k_ix_list (K := K)) (pv 0) pe_int (fun _ _ => rfl)) pe_int) (fun _ _ => rfl)))
      (pss_cons (ps_asg (pe_op op_mod (pe_callTy call_int_i (by rfl) T.m_int (by decide +kernel) (pa_cons (pe_op op_add (pe_op op_add (pe_op op_mul (pe_ix (k_ix_list (K := K)) (pv 0) pe_int (fun _ _ => rfl)) pe_int) (pv 3)) pe_int) pa_nil)) pe_int) (pg_sub (pv 0) pe_int set_list))
      (pss_cons (ps_if (pt_cmpR op_ge (pv 3) (pe_op op_pow pe_int pe_int) (nomark _)) (pss_one (ps_asg (pe_op op_fdivW (pv 3) (pv 1)) (pg_sub (pv 0) pe_int set_list))) pss_nil)
      (pss_one (ps_ret (pe_op op_mod (pe_callTy call_int_i (by rfl) T.m_int (by decide +kernel) (pa_cons (pv 3) pa_nil)) (pv 1)))))))))), ?_⟩
    have hdiv : ∀ c, CDivW c many := fun c => wide_div hp (show many.natAbs < 2 ^ 250 by omega) (by decide) (by decide)
    have hdiv7 : ∀ c, CDivW c 7 := fun c => ⟨by decide, by decide⟩
    have hmul : ∀ c, CMul c 48271 := fun c => .inr ⟨by decide, by decide⟩
    have hpow : CPow 10 18 := ⟨by decide, by decide, by decide⟩
    have hk : ∀ o, KeepB r H (upd H r o) := fun o => KeepB.put
    have hs := hS.sq
    have hS1 : ∀ o, Scr K (upd H r o) t ns := fun o => hS.mono (TK.lst hrow)
    have hs1 : ∀ o, SqL K (upd H r o) t (ns.map V.int) := fun o => (hS1 o).sq
    have hs2 : ∀ o o', SqL K (upd (upd H r o) r o') t (ns.map V.int) := fun o o' => by rw [upd_upd]; exact hs1 _
    have hmod : ∀ x : Int, 0 ≤ x % 2147483647 ∧ x % 2147483647 < 2147483647 := fun x => ⟨Int.emod_nonneg _ (by decide), Int.emod_lt_of_pos _ (by decide)⟩
    have fin : ∀ (x i' m' c' : Int), 0 ≤ i' → 0 ≤ m' → m' < 2147483647 → 0 ≤ c' → Q (.int (x % many)) (upd H r (.lst [.ref t, .int i', .int m', .int c'])) := fun x i' m' c' h1 h2 h3 h4 =>
      q _ _ (Int.emod_nonneg _ (by omega)) (Int.emod_lt_of_pos _ hp) ⟨t, ns, i', m', c', upd_same, hS1 _, h1, h2, h3, h4⟩ (hk _)
    walk_at "st"
    refine ite2 (fun e => ?_) (fun e => ?_)
    · have e := of_decide_eq_true e
      walk_at "st"
      exact fin c i m (c / many) hi hm0 hm1 (Int.ediv_nonneg hc (by omega))
    · walk_at "st"
      refine ite2 (fun e => ?_) (fun e => ?_)
      · walk_at "st"
        simp only [upd_upd]
        exact fin _ (i + 1) _ c (by omega) (hmod _).1 (hmod _).2 hc
      · have e2 : ¬ ((i + 1 : Int) > ((ns.map V.int).length : Int)) := fun z => e (decide_eq_true z)
        rw [List.length_map] at e2
        have hat : ∃ z, atI (ns.map V.int) (i + 1 - 1) = some (.int z) := by
          obtain ⟨j, rfl⟩ : ∃ j : Nat, i = (j : Int) := ⟨i.toNat, by omega⟩
          have hj : j < ns.length := by omega
          refine ⟨ns[j], ?_⟩
          rw [show ((j : Int) + 1 - 1) = (j : Int) by omega]
          exact atI_nat (by rw [List.getElem?_map, List.getElem?_eq_getElem hj]; rfl)
        obtain ⟨z, hat⟩ := hat
        walk_at "st"
        refine ite2 (fun e => ?_) (fun e => ?_)
        · have e := of_decide_eq_true e
          walk_at "st"
          simp only [upd_upd]
          have hz : (0 : Int) ≤ z := Int.le_trans (by decide) e
          exact fin _ (i + 1) _ _ (by omega) (hmod _).1 (hmod _).2 (Int.ediv_nonneg hz (by omega))
        · walk_at "st"
          simp only [upd_upd]
          exact fin _ (i + 1) _ c (by omega) (hmod _).1 (hmod _).2 hc
end

/-! ### tables -/
abbrev Ent := Option (Int × Int × Int)
def entD : Ent → PyData
  | none => .none
  | some e => .tuple [.int e.1, .int e.2.1, .int e.2.2]
def rowD (r : List Ent) : PyData := .tuple (r.map entD)
def tabD (T : List (List Ent)) : PyData := .tuple (T.map rowD)
def EntOk (c n : Int) : Ent → Prop
  | none => True
  | some e => (0 ≤ e.1 ∧ e.1 < c) ∧ (0 ≤ e.2.1 ∧ e.2.1 < 4) ∧ (0 ≤ e.2.2 ∧ e.2.2 < n)
def TabOk (c n : Nat) (T : List (List Ent)) : Prop := T.length = n ∧ ∀ r ∈ T, r.length = c ∧ ∀ e ∈ r, EntOk c n e
def spTable (K : PySem.W.Frag) : Sp := fun vs H Q _ => ∃ r : Addr, vs = [.ref r] ∧ Row K H r ∧
  ∀ (v : V) (H' : Hp) (c n : Nat) (T : List (List Ent)), 1 ≤ n → n ≤ 2 → 2 ≤ c → c ≤ 3 → TabOk c n T → Tp K H' v (tabD T) → Row K H' r → KeepB r H H' → Q v H'

/-! ### walks -/
/-- x, y, heading, state -/
abbrev Wk := Int × Int × Int × Int
def wkD (w : Wk) : PyData := .tuple [.int w.1, .int w.2.1, .int w.2.2.1, .int w.2.2.2]
def wPt (w : Wk) : Pt := (w.1, w.2.1)
def dxI (h : Int) : Int := if h = 1 then 1 else if h = 3 then -1 else 0
def dyI (h : Int) : Int := if h = 0 then -1 else if h = 2 then 1 else 0
def entAt (T : List (List Ent)) (s c : Int) : Ent := ((T[s.toNat]?).bind fun r => r[c.toNat]?).getD none
def dab (f : Pt → Int) (p : Pt) (c : Int) : Pt → Int := fun q => if q = p then c else f q
abbrev WSt := (Pt → Int) × Wk
def turnI (w : Wk) (t : Int) : Int := (w.2.2.1 + t) % 4
def behind (w : Wk) (e : Int × Int × Int) : Wk := (w.1 + dxI (turnI w e.2.1), w.2.1 + dyI (turnI w e.2.1), turnI w e.2.1, e.2.2)
def stepW (T : List (List Ent)) (z : WSt) : Option WSt := (entAt T z.2.2.2.2 (z.1 (wPt z.2))).map fun e => (dab z.1 (wPt z.2) e.1, behind z.2 e)
def runW (T : List (List Ent)) : Nat → WSt → Option WSt
  | 0, z => some z
  | n + 1, z => (runW T n z).bind (stepW T)
structure Ends (T : List (List Ent)) (z : WSt) (many i : Nat) (z' : WSt) : Prop where
  run : runW T i z = some z'
  le : i ≤ many
  stop : i = many ∨ stepW T z' = none
section
variable {T : List (List Ent)}
theorem runW_none {z : WSt} {i : Nat} (h : runW T i z = none) : ∀ k, runW T (i + k) z = none
  | 0 => h
  | k + 1 => by
    show (runW T (i + k) z).bind (stepW T) = none
    rw [runW_none h k]
    rfl
theorem runW_add (z : WSt) (i : Nat) : ∀ j, runW T (i + j) z = (runW T i z).bind (runW T j)
  | 0 => by
    show runW T i z = (runW T i z).bind some
    cases runW T i z <;> rfl
  | j + 1 => by
    show (runW T (i + j) z).bind (stepW T) = _
    rw [runW_add z i j]
    cases runW T i z <;> rfl
theorem Ends.stuck {z z' : WSt} {many i j : Nat} (h : Ends T z many i z') (l : i < j) (m : j ≤ many) : runW T j z = none := by
  have st : stepW T z' = none := h.stop.resolve_left (by omega)
  have n : runW T (i + 1) z = none := by
    show (runW T i z).bind (stepW T) = none
    rw [h.run]
    exact st
  have q := runW_none n (j - (i + 1))
  rw [show i + 1 + (j - (i + 1)) = j by omega] at q
  exact q
theorem Ends.uniq {z z1 z2 : WSt} {many i j : Nat} (a : Ends T z many i z1) (b : Ends T z many j z2) : i = j ∧ z1 = z2 := by
  have e : i = j := by
    rcases Nat.lt_trichotomy i j with l | l | l
    · have q := a.stuck l b.le
      rw [b.run] at q
      cases q
    · exact l
    · have q := b.stuck l a.le
      rw [a.run] at q
      cases q
  subst e
  have q := a.run
  rw [b.run] at q
  exact ⟨rfl, (Option.some.inj q).symm⟩
theorem Ends.two {z z1 z2 : WSt} {many more i j : Nat} (a : Ends T z many i z1) (b : Ends T z1 more j z2) : Ends T z (many + more) (i + j) z2 := by
  refine ⟨?_, Nat.add_le_add a.le b.le, ?_⟩
  · rw [runW_add, a.run]
    exact b.run
  · rcases a.stop with e | st
    · exact b.stop.imp (fun e2 => by rw [e, e2]) id
    · have ej : j = 0 := by
        rcases Nat.eq_zero_or_pos j with q | q
        · exact q
        · have n : runW T (0 + 1) z1 = none := st
          have r := runW_none n (j - 1)
          rw [show 0 + 1 + (j - 1) = j by omega, b.run] at r
          cases r
      subst ej
      have e2 : z1 = z2 := Option.some.inj b.run
      exact .inr (e2 ▸ st)
/-- what goes with every step goes with the walk -/
theorem runW_map {φ : WSt → WSt} (h : ∀ z, stepW T (φ z) = (stepW T z).map φ) (z : WSt) : ∀ i, runW T i (φ z) = (runW T i z).map φ
  | 0 => rfl
  | i + 1 => by
    show (runW T i (φ z)).bind (stepW T) = ((runW T i z).bind (stepW T)).map φ
    rw [runW_map h z i]
    cases runW T i z with
    | none => rfl
    | some y => exact h y
theorem Ends.map {φ : WSt → WSt} (h : ∀ z, stepW T (φ z) = (stepW T z).map φ) {z z' : WSt} {many i : Nat} (a : Ends T z many i z') : Ends T (φ z) many i (φ z') := by
  refine ⟨?_, a.le, a.stop.imp id fun st => ?_⟩
  · rw [runW_map h, a.run]
    rfl
  · rw [h, st]
    rfl
/-! ### a quarter turn, a move -/
def rotP (p : Pt) : Pt := (-p.2, p.1)
def unrotP (p : Pt) : Pt := (p.2, -p.1)
theorem rot_iff {p q : Pt} : q = rotP p ↔ unrotP q = p := by
  obtain ⟨a, b⟩ := p
  obtain ⟨c, d⟩ := q
  unfold rotP unrotP
  constructor
  · intro h
    have h1 : c = -b := congrArg Prod.fst h
    have h2 : d = a := congrArg Prod.snd h
    rw [h1, h2, Int.neg_neg]
  · intro h
    have h1 : d = a := congrArg Prod.fst h
    have h2 : -c = b := congrArg Prod.snd h
    rw [← h1, ← h2, Int.neg_neg]
def rotZ (z : WSt) : WSt := (fun q => z.1 (unrotP q), (-z.2.2.1, z.2.1, (z.2.2.2.1 + 1) % 4, z.2.2.2.2))
theorem dab_rot (f : Pt → Int) (p : Pt) (c : Int) : dab (fun q => f (unrotP q)) (rotP p) c = fun q => dab f p c (unrotP q) := by
  funext q
  unfold dab
  by_cases h : q = rotP p
  · rw [if_pos h, if_pos (rot_iff.mp h)]
  · rw [if_neg h, if_neg (fun z => h (rot_iff.mpr z))]
theorem turn_ax {g : Int} (h0 : 0 ≤ g) (h1 : g < 4) : dxI ((g + 1) % 4) = -dyI g ∧ dyI ((g + 1) % 4) = dxI g := by
  obtain ⟨n, rfl⟩ := Int.eq_ofNat_of_zero_le h0
  have h : n = 0 ∨ n = 1 ∨ n = 2 ∨ n = 3 := by omega
  rcases h with rfl | rfl | rfl | rfl <;> decide
theorem behind_rot (f : Pt → Int) (w : Wk) (e : Int × Int × Int) : behind (rotZ (f, w)).2 e = (rotZ (f, behind w e)).2 := by
  have g0 : 0 ≤ turnI w e.2.1 := Int.emod_nonneg _ (by decide)
  have g1 : turnI w e.2.1 < 4 := Int.emod_lt_of_pos _ (by decide)
  have e1 : turnI (rotZ (f, w)).2 e.2.1 = (turnI w e.2.1 + 1) % 4 := by
    show ((w.2.2.1 + 1) % 4 + e.2.1) % 4 = ((w.2.2.1 + e.2.1) % 4 + 1) % 4
    omega
  obtain ⟨a1, a2⟩ := turn_ax g0 g1
  unfold behind
  rw [e1, a1, a2]
  show (-w.2.1 + -dyI (turnI w e.2.1), w.1 + dxI (turnI w e.2.1), _, _) = (-(w.2.1 + dyI (turnI w e.2.1)), w.1 + dxI (turnI w e.2.1), _, _)
  rw [Int.neg_add]
theorem step_rot (z : WSt) : stepW T (rotZ z) = (stepW T z).map rotZ := by
  obtain ⟨f, w⟩ := z
  have e : (rotZ (f, w)).1 (wPt (rotZ (f, w)).2) = f (wPt w) := by
    show f (unrotP (rotP (wPt w))) = f (wPt w)
    rw [rot_iff.mp rfl]
  show ((entAt T w.2.2.2 ((rotZ (f, w)).1 (wPt (rotZ (f, w)).2))).map _) = ((entAt T w.2.2.2 (f (wPt w))).map _).map rotZ
  rw [e]
  cases entAt T w.2.2.2 (f (wPt w)) with
  | none => rfl
  | some en =>
    show some (dab (fun q => f (unrotP q)) (rotP (wPt w)) en.1, behind (rotZ (f, w)).2 en) = some (rotZ (dab f (wPt w) en.1, behind w en))
    rw [dab_rot, behind_rot f w en]
    rfl
def shiftZ (m : Int) (z : WSt) : WSt := (fun q => z.1 (q.1 - m, q.2), (z.2.1 + m, z.2.2.1, z.2.2.2.1, z.2.2.2.2))
theorem step_shift (m : Int) (z : WSt) : stepW T (shiftZ m z) = (stepW T z).map (shiftZ m) := by
  obtain ⟨f, w⟩ := z
  have e : (shiftZ m (f, w)).1 (wPt (shiftZ m (f, w)).2) = f (wPt w) := by
    show f (w.1 + m - m, w.2.1) = f (wPt w)
    rw [show w.1 + m - m = w.1 by omega]
    rfl
  show ((entAt T w.2.2.2 ((shiftZ m (f, w)).1 (wPt (shiftZ m (f, w)).2))).map _) = ((entAt T w.2.2.2 (f (wPt w))).map _).map (shiftZ m)
  rw [e]
  cases entAt T w.2.2.2 (f (wPt w)) with
  | none => rfl
  | some en =>
    have e1 : dab (fun q : Pt => f (q.1 - m, q.2)) (w.1 + m, w.2.1) en.1 = fun q => dab f (wPt w) en.1 (q.1 - m, q.2) := by
      funext q
      obtain ⟨a, b⟩ := q
      unfold dab wPt
      by_cases h : (a, b) = (w.1 + m, w.2.1)
      · have h1 : a = w.1 + m := congrArg Prod.fst h
        have h2 : b = w.2.1 := congrArg Prod.snd h
        rw [if_pos h, if_pos (by rw [h1, h2, show w.1 + m - m = w.1 by omega])]
      · rw [if_neg h, if_neg (fun z => h ?_)]
        have h1 : a - m = w.1 := congrArg Prod.fst z
        have h2 : b = w.2.1 := congrArg Prod.snd z
        rw [← h1, ← h2, show a - m + m = a by omega]
    have e2 : behind (w.1 + m, w.2.1, w.2.2.1, w.2.2.2) en = ((behind w en).1 + m, (behind w en).2.1, (behind w en).2.2.1, (behind w en).2.2.2) := by
      show (w.1 + m + dxI (turnI w en.2.1), _, _, _) = (w.1 + dxI (turnI w en.2.1) + m, _, _, _)
      rw [Int.add_right_comm]
      rfl
    show some (dab (fun q : Pt => f (q.1 - m, q.2)) (w.1 + m, w.2.1) en.1, behind (w.1 + m, w.2.1, w.2.2.1, w.2.2.2) en) = some (shiftZ m (dab f (wPt w) en.1, behind w en))
    rw [e1, e2]
    rfl
/-! ### how far a walk comes -/
def InB (B : Int) (p : Pt) : Prop := (-B ≤ p.1 ∧ p.1 ≤ B) ∧ (-B ≤ p.2 ∧ p.2 ≤ B)
structure Fit (c n : Nat) (B : Int) (z : WSt) : Prop where
  cols : ∀ p, 0 ≤ z.1 p ∧ z.1 p < c
  near : ∀ p, z.1 p ≠ 0 → InB B p
  wk : InB B (wPt z.2)
  hd : 0 ≤ z.2.2.2.1 ∧ z.2.2.2.1 < 4
  st : 0 ≤ z.2.2.2.2 ∧ z.2.2.2.2 < n
theorem entAt_ok {c n : Nat} (ok : TabOk c n T) {s k : Int} (hs : 0 ≤ s ∧ s < n) (hk : 0 ≤ k ∧ k < c) : ∃ r, T[s.toNat]? = some r ∧ r.length = c ∧ r[k.toNat]? = some (entAt T s k) ∧ EntOk c n (entAt T s k) := by
  have l1 : s.toNat < T.length := by rw [ok.1]; omega
  have m1 : T[s.toNat] ∈ T := List.getElem_mem l1
  obtain ⟨r1, r2⟩ := ok.2 _ m1
  have l2 : k.toNat < (T[s.toNat]).length := by rw [r1]; omega
  have e : entAt T s k = (T[s.toNat])[k.toNat] := by
    unfold entAt
    rw [List.getElem?_eq_getElem l1]
    show (((T[s.toNat])[k.toNat]?).getD none) = _
    rw [List.getElem?_eq_getElem l2]
    rfl
  refine ⟨_, List.getElem?_eq_getElem l1, r1, ?_, ?_⟩
  · rw [e]
    exact List.getElem?_eq_getElem l2
  · rw [e]
    exact r2 _ (List.getElem_mem l2)
theorem InB.mono {B C : Int} {p : Pt} (h : InB B p) (l : B ≤ C) : InB C p := by
  unfold InB at *
  omega
theorem ahead1 (h : Int) : (-1 ≤ dxI h ∧ dxI h ≤ 1) ∧ (-1 ≤ dyI h ∧ dyI h ≤ 1) := by
  unfold dxI dyI
  constructor
  · split
    · omega
    · split <;> omega
  · split
    · omega
    · split <;> omega
theorem Fit.step {c n : Nat} {B : Int} {z z' : WSt} (ok : TabOk c n T) (g : Fit c n B z) (h : stepW T z = some z') : Fit c n (B + 1) z' := by
  obtain ⟨r, _, _, _, eo⟩ := entAt_ok ok g.st (g.cols (wPt z.2))
  unfold stepW at h
  generalize he : entAt T z.2.2.2.2 (z.1 (wPt z.2)) = en at h eo
  cases en with
  | none => cases h
  | some e =>
    obtain rfl := (Option.some.inj h).symm
    obtain ⟨o1, o2, o3⟩ := eo
    have w1 := g.wk
    obtain ⟨a1, a2⟩ := ahead1 (turnI z.2 e.2.1)
    refine ⟨fun p => ?_, fun p hp => ?_, ?_, ⟨Int.emod_nonneg _ (by decide), Int.emod_lt_of_pos _ (by decide)⟩, o3⟩
    · show 0 ≤ (if p = wPt z.2 then e.1 else z.1 p) ∧ (if p = wPt z.2 then e.1 else z.1 p) < c
      split
      · exact o1
      · exact g.cols p
    · have hp : (if p = wPt z.2 then e.1 else z.1 p) ≠ 0 := hp
      split at hp
      · rename_i q
        rw [q]
        exact w1.mono (by omega)
      · exact (g.near p hp).mono (by omega)
    · show InB (B + 1) (z.2.1 + dxI (turnI z.2 e.2.1), z.2.2.1 + dyI (turnI z.2 e.2.1))
      unfold InB wPt at *
      omega
theorem Fit.run {c n : Nat} {B : Int} {z : WSt} (ok : TabOk c n T) (g : Fit c n B z) : ∀ {i : Nat} {z' : WSt}, runW T i z = some z' → Fit c n (B + i) z'
  | 0, z', h => by
    obtain rfl := Option.some.inj h
    rw [show B + ((0 : Nat) : Int) = B by omega]
    exact g
  | i + 1, z', h => by
    have h : (runW T i z).bind (stepW T) = some z' := h
    cases e : runW T i z with
    | none =>
      rw [e] at h
      cases h
    | some y =>
      rw [e] at h
      have q := (g.run ok e).step ok h
      rw [show B + ((i + 1 : Nat) : Int) = B + (i : Int) + 1 by omega]
      exact q
end
/-! ### floors that may be handed in -/
structure FlOk (c : Nat) (B : Int) (F : List Sq) : Prop where
  asc : F.Pairwise fun a b => ltP a.pt b.pt
  sq : ∀ s ∈ F, InB B s.pt ∧ 1 ≤ s.2.2 ∧ s.2.2 < c
theorem FlOk.of {c n : Nat} {B : Int} {z : WSt} {F : List Sq} (g : Fit c n B z) (h : FloorOf z.1 F) : FlOk c B F := by
  refine ⟨h.asc, fun s hs => ?_⟩
  obtain ⟨e, nz⟩ := (h.mem s).mp hs
  have c1 := g.cols s.pt
  rw [e] at nz
  refine ⟨g.near _ nz, ?_, ?_⟩ <;> rw [e] <;> omega
theorem FlOk.fl {c : Nat} {B : Int} {F : List Sq} (h : FlOk c B F) : FloorOf (colF F) F := colF_of h.asc fun s hs => by
  have := (h.sq s hs).2
  omega
theorem FlOk.fit {c n : Nat} {B : Int} {F : List Sq} {w : Wk} (h : FlOk c B F) (hc : 1 ≤ c) (hw : InB B (wPt w)) (hh : 0 ≤ w.2.2.1 ∧ w.2.2.1 < 4) (hs : 0 ≤ w.2.2.2 ∧ w.2.2.2 < n) : Fit c n B (colF F, w) := by
  have f := h.fl
  have at_ : ∀ p, colF F p = 0 ∨ (p.1, p.2, colF F p) ∈ F := fun p => by
    by_cases z : colF F p = 0
    · exact .inl z
    · exact .inr ((f.mem (p.1, p.2, colF F p)).mpr ⟨rfl, z⟩)
  refine ⟨fun p => ?_, fun p hp => ?_, hw, hh, hs⟩
  · show 0 ≤ colF F p ∧ colF F p < c
    rcases at_ p with z | z
    · rw [z]
      omega
    · have q := (h.sq _ z).2
      have q1 : 1 ≤ colF F p ∧ colF F p < c := q
      omega
  · rcases at_ p with z | z
    · exact absurd z hp
    · exact (h.sq _ z).1

/-! ### lists -/
theorem nodup_at {α : Type} {l : List α} (nd : l.Nodup) {i j : Nat} {a : α} (h1 : l[i]? = some a) (h2 : l[j]? = some a) : i = j := by
  obtain ⟨l1, q1⟩ := List.getElem?_eq_some_iff.mp h1
  obtain ⟨l2, q2⟩ := List.getElem?_eq_some_iff.mp h2
  have p := List.pairwise_iff_getElem.mp nd
  rcases Nat.lt_trichotomy i j with z | z | z
  · exact absurd (q1.trans q2.symm) (p i j l1 l2 z)
  · exact z
  · exact absurd (q2.trans q1.symm) (p j i l2 l1 z)
theorem TpAll.set {K : PySem.W.Frag} {H : Hp} : ∀ {vs : List V} {ds : List PyData} {k : Nat} {v : V} {d : PyData}, TpAll K H vs ds → Tp K H v d → TpAll K H (vs.set k v) (ds.set k d)
  | [], [], _, _, _, h, _ => .nil
  | [], _ :: _, _, _, _, h, _ => nomatch h
  | _ :: _, [], _, _, _, h, _ => nomatch h
  | u :: us, e :: es, 0, v, d, h, g => by
    cases h with
    | cons h1 h2 => exact .cons g h2
  | u :: us, e :: es, k + 1, v, d, h, g => by
    cases h with
    | cons h1 h2 => exact .cons h1 (TpAll.set h2 g)
theorem ixN_of {n k : Nat} (h : k < n) : ixN n (0 + ((k : Nat) : Int)) = some k := by
  unfold ixN
  rw [if_pos (by omega), if_pos (by omega)]
  congr 1
  omega
theorem le_only {a b : Int} (h : a ≤ b) : a ≤ b := h
theorem lt_only {a b : Int} (h : a < b) : a < b := h
theorem getD_at {T : List (List Ent)} {s : Nat} {r : List Ent} (h : T[s]? = some r) : T.getD s [] = r := by
  rw [List.getD_eq_getElem?_getD, h]
  rfl
theorem entAt_at {T : List (List Ent)} {s k : Nat} {r : List Ent} {e : Ent} (h : T[s]? = some r) (h2 : r[k]? = some e) : entAt T s k = e := by
  unfold entAt
  rw [Int.toNat_natCast, Int.toNat_natCast, h]
  show (r[k]?).getD none = e
  rw [h2]
  rfl

theorem nodup_sub {α : Type} [DecidableEq α] : ∀ {A B : List α}, A.Nodup → (∀ x ∈ A, x ∈ B) → A.length ≤ B.length
  | [], B, _, _ => Nat.zero_le _
  | a :: r, B, nd, h => by
    have nd := List.nodup_cons.mp nd
    have hb : a ∈ B := h a List.mem_cons_self
    have q := nodup_sub (A := r) (B := B.erase a) nd.2 fun x hx => (List.mem_erase_of_ne fun z => nd.1 (by rw [← z]; exact hx)).mpr (h x (List.mem_cons_of_mem _ hx))
    have l := List.length_erase_of_mem hb
    have p : 0 < B.length := List.length_pos_of_mem hb
    show r.length + 1 ≤ _
    omega

/-! ### two dictionaries by tuples, of ints, are equal -/
section
open PySem.SeqAt
variable {prog : Program} {w : World} {K : Type} [DecidableEq K] {knd : HeapKind prog w K} {A : Around} {E : Value → Shared → Prop} {s : Shared}
inductive HitsH (prog : Program) (w : World) (A : Around) (s : Shared) (kb : List (K × Addr × Value)) : List (K × Addr × Value) → Bool → Prop
  | nil : HitsH prog w A s kb [] true
  | miss {k : K} {a : Addr} {v : Value} {r : List (K × Addr × Value)} : (∀ (j : Nat) (p : Addr × Value), kb[j]? ≠ some (k, p)) → HitsH prog w A s kb ((k, a, v) :: r) false
  | hit {k : K} {a : Addr} {v : Value} {r : List (K × Addr × Value)} {e b : Bool} : (∀ (j : Nat) (p : Addr × Value), kb[j]? = some (k, p) → SeqAt.EqP prog w A s v p.2 e) → (∃ (j : Nat) (p : Addr × Value), kb[j]? = some (k, p)) → HitsH prog w A s kb r b → HitsH prog w A s kb ((k, a, v) :: r) (e && b)
theorem HitsH.inv {kb : List (K × Addr × Value)} {k : K} {a : Addr} {v : Value} {r : List (K × Addr × Value)} {b : Bool} (h : HitsH prog w A s kb ((k, a, v) :: r) b) :
    ((∀ (j : Nat) (p : Addr × Value), kb[j]? ≠ some (k, p)) ∧ b = false) ∨ ∃ e b', (∀ (j : Nat) (p : Addr × Value), kb[j]? = some (k, p) → SeqAt.EqP prog w A s v p.2 e) ∧ (∃ (j : Nat) (p : Addr × Value), kb[j]? = some (k, p)) ∧ HitsH prog w A s kb r b' ∧ b = (e && b') := by
  cases h with
  | miss hn => exact .inl ⟨hn, rfl⟩
  | hit hy he hr => exact .inr ⟨_, _, hy, he, hr, rfl⟩
theorem samePairsH {nm : String} {a b : Addr} {ka kb : List (K × Addr × Value)} {r : Bool} {Q : Bool → Shared → Prop} (ha : (a == sysModules) = false) (hb : (b == sysModules) = false)
    (da : s.heap.DictOfH knd a ka) (db : s.heap.DictOfH knd b kb) (hu : knd.room A) (hits : ka.length = kb.length → HitsH prog w A s kb ka r) (h : Q (ka.length == kb.length && r) s) :
    wpAny (model prog w) A (Builtin.Dict.samePairs nm a b) Q E s := by
  obtain ⟨oa, es, ep, hoa, _, hda, hea, hka, hna⟩ := da
  obtain ⟨ob, es', ep', hob, _, hdb, heb, hkb, hnb⟩ := db
  have hla : ka.length = es.size := (size_of_entries hea).symm
  have hlb : kb.length = es'.size := (size_of_entries heb).symm
  rw [hla, hlb] at h
  unfold Builtin.Dict.samePairs Builtin.Dict.showsAll
  rw [if_neg (show ¬ (a == sysModules) = true by rw [ha]; exact Bool.false_ne_true), if_neg (show ¬ (b == sysModules) = true by rw [hb]; exact Bool.false_ne_true)]
  refine wpAny_bind (wpAny_pure (wpAny_bind (wpAny_pure ?_)))
  refine wpAny_bind (wpAny_dictEntries hoa hda ?_)
  dsimp only
  refine wpAny_bind (wpAny_dictEntries hob hdb ?_)
  by_cases hsz : es.size = es'.size
  case neg =>
    rw [if_pos (by simpa using hsz)]
    have hbf : (es.size == es'.size) = false := by simpa using hsz
    rw [hbf, Bool.false_and] at h
    exact wpAny_bind (wpAny_rule (wpAny_pure h))
  case pos =>
    have h' : Q r s := by simpa [hsz] using h
    have hits' := hits (by rw [hla, hlb]; exact hsz)
    rw [if_neg (by rw [hsz]; simp)]
    refine wpAny_bind (wpAny_dictEpoch hoa hda ?_)
    refine wpAny_bind ?_
    rw [Std.Legacy.Range.forIn_eq_forIn_range']
    simp only [Std.Legacy.Range.size, Nat.sub_zero, Nat.add_sub_cancel, Nat.div_one]
    refine wpAny_forIn_list _
      (fun rest q s' => s' = s ∧ q = (none, ()) ∧ ∃ i, rest = List.range' i (es.size - i) ∧ i ≤ es.size ∧ HitsH prog w A s kb (ka.drop i) r)
      _ ?_ ?_ _ _ ⟨rfl, rfl, 0, by simp, Nat.zero_le _, hits'⟩
    · rintro x rest q s' ⟨rfl, rfl, i, hr, hi, hpre⟩
      have hlt : i < es.size := by
        rcases Nat.lt_or_ge i es.size with h | h
        · exact h
        · rw [Nat.sub_eq_zero_of_le h] at hr; simp at hr
      obtain ⟨rfl, hrest⟩ : x = i ∧ rest = List.range' (i + 1) (es.size - (i + 1)) := by
        have e : es.size - i = (es.size - (i + 1)) + 1 := by omega
        rw [e, List.range'_succ] at hr
        injection hr with h1 h2
        exact ⟨h1, h2⟩
      refine wpAny_bind (wpAny_dictEntries hoa hda ?_)
      have hlt' : x < ka.length := by rw [hla]; exact hlt
      obtain ⟨⟨k, ad, v⟩, hkv⟩ : ∃ y, ka[x] = y := ⟨_, rfl⟩
      have hkv' : ka[x]? = some (k, ad, v) := by rw [List.getElem?_eq_getElem hlt', hkv]
      have hdrop : ka.drop x = (k, ad, v) :: ka.drop (x + 1) := by rw [← hkv]; exact List.drop_eq_getElem_cons hlt'
      have hex : es[x]? = some ⟨knd.hash k, .ref ad, v⟩ := by rw [entry_at hea x, hkv']; rfl
      rw [hex]
      have hkey : knd.is s'.heap k ad := hka _ (List.mem_of_getElem? hkv')
      rw [hdrop] at hpre
      refine wpAny_bind (wpAny_holding (wpAny_bind (wpAny_dictFind_heap hu hkey hob hdb heb hkb hnb (fun hno => ?_) (fun j p hj => ?_))))
      · rcases hpre.inv with ⟨_, er⟩ | ⟨_, _, _, ⟨j, p, hj⟩, _⟩
        · rw [er] at h'
          refine wpAny_pure ?_
          show wpAny _ _ (if (!false) = true then _ else _) _ _ _
          rw [if_pos (by decide)]
          exact wpAny_pure (wpAny_pure h')
        · exact absurd hj (hno j p)
      · have hex2 : es'[j]? = some ⟨knd.hash k, .ref p.1, p.2⟩ := by rw [entry_at heb j, hj]; rfl
        refine wpAny_bind (wpAny_dictEntries hob hdb ?_)
        rw [hex2]
        rcases hpre.inv with ⟨hn, _⟩ | ⟨e, b', he, _, hrr, er⟩
        · exact absurd hj (hn j p)
        · refine wpAny_holding (he j p hj _ _ ?_)
          cases e with
          | false =>
            rw [er, Bool.false_and] at h'
            show wpAny _ _ (if (!false) = true then _ else _) _ _ _
            rw [if_pos (by decide)]
            exact wpAny_pure (wpAny_pure h')
          | true =>
            rw [Bool.true_and] at er
            rw [← er] at hrr
            show wpAny _ _ (if (!true) = true then _ else _) _ _ _
            rw [if_neg (by decide)]
            refine wpAny_bind (wpAny_dictEpoch hoa hda ?_)
            rw [if_neg (by simp)]
            exact wpAny_pure ⟨rfl, rfl, x + 1, hrest, hlt, hrr⟩
    · rintro q s' ⟨rfl, rfl, i, hr, hi, hpre⟩
      have hin : i = es.size := by
        rcases Nat.lt_or_ge i es.size with h | h
        · have e : es.size - i = (es.size - (i + 1)) + 1 := by omega
          rw [e, List.range'_succ] at hr; exact nomatch hr
        · exact Nat.le_antisymm hi h
      refine wpAny_pure ?_
      rw [hin, ← hla, List.drop_length] at hpre
      cases hpre
      exact h'
theorem rcP_dictsH {a b : Addr} {ka kb : List (K × Addr × Value)} {r : Bool} (ha : (a == sysModules) = false) (hb : (b == sysModules) = false)
    (da : s.heap.DictOfH knd a ka) (db : s.heap.DictOfH knd b kb) (hu : A.units < cLine) (hu1 : knd.room A.in1) (hits : ka.length = kb.length → HitsH prog w A.in1 s kb ka r) (E Q : Value → Shared → Prop) (h : Q (.bool (ka.length == kb.length && r)) s) : wpAny (model prog w) A (richCompare .Eq (.ref a) (.ref b)) Q E s := by
  refine wpAny_richCompare_same_room (op := .Eq) da.typeIs db.typeIs PySem.F.slot_dict_eq (wpAny_call_entry PySem.F.slot_dict_eq da.typeIs PySem.F.entry_dict_eq ?_ (PySem.F.args_dict_eq_2 _ _)) hu
  show wpAny _ _ (Builtin.Dict.dictSlotArgs "__eq__" ⟨[.ref a, .ref b], []⟩ >>= _) _ _ s
  refine wpAny_bind ?_
  unfold Builtin.Dict.dictSlotArgs
  refine wpAny_bind (wpAny_notOrdered_dict da.typeIs ?_)
  show wpAny _ _ (pure (Value.ref a, Value.ref b)) _ _ s
  refine wpAny_pure ?_
  refine wpAny_bind (wpAny_isInstance (T := "dict") db.typeIs PySem.F.sub_dict_dict ?_)
  simp only [Bool.not_true, Bool.false_eq_true, if_false]
  refine wpAny_bind (wpAny_pure (wpAny_bind (wpAny_pure ?_)))
  refine wpAny_bind (samePairsH ha hb da db hu1 hits ?_)
  refine wpAny_pure ⟨_, rfl, ?_, ?_⟩
  · exact fun x => nomatch x
  · simpa using h
end
theorem atKey_at {xs : List (List Key × Addr × Value)} {k : List Key} : (∀ (j : Nat) (p : Addr × Value), xs[j]? ≠ some (k, p)) ∨ ∃ p, atKey xs k = some p ∧ ∃ j : Nat, xs[j]? = some (k, p) := by
  cases e : xs.find? (fun x => decide (x.1 = k)) with
  | none =>
    refine .inl fun j p h => ?_
    have z := List.find?_eq_none.mp e _ (List.mem_of_getElem? h)
    exact z (decide_eq_true rfl)
  | some x =>
    have h1 : x.1 = k := by
      have z := List.find?_some e
      exact of_decide_eq_true z
    have h2 := List.mem_of_find?_eq_some e
    obtain ⟨j, hj⟩ := List.getElem?_of_mem h2
    refine .inr ⟨x.2, ?_, j, ?_⟩
    · unfold atKey
      rw [e]
      rfl
    · rw [hj, ← h1]
/-- the rows of the first, looked for in the second -/
theorem hitsH_run {P : Program} {w : World} {A : Around} {s : Shared} {H : Hp} {ls : List (List Key × V)} {vb : List (List Key × Addr × Value)} (rb : KT H ls vb) (nb : (vb.map (·.1)).Nodup) (ib : ∀ p ∈ ls, ∃ i, p.2 = V.int i) :
    ∀ {ks : List (List Key × V)} {va : List (List Key × Addr × Value)}, KT H ks va → (∀ p ∈ ks, ∃ i, p.2 = V.int i) → ∃ r, HitsH P w A s vb va r ∧ (r = true ↔ ∀ p ∈ ks, valV ls p.1 = some p.2) := by
  intro ks va ra
  unfold KT at ra
  induction ra with
  | nil => exact fun _ => ⟨true, .nil, ⟨fun _ p hp => (nomatch hp), fun _ => rfl⟩⟩
  | @cons p q ps qs h t ih =>
    intro hi
    obtain ⟨h1, h0, h2⟩ := h
    obtain ⟨k, v⟩ := p
    obtain ⟨k', ad, u⟩ := q
    obtain rfl : k = k' := h1
    obtain ⟨i, rfl⟩ : ∃ i, v = V.int i := hi _ List.mem_cons_self
    obtain ⟨tk, rfl⟩ : ∃ t, u = .int i t := h2
    obtain ⟨r, hr, er⟩ := ih fun p hp => hi p (List.mem_cons_of_mem _ hp)
    rcases atKey_at (xs := vb) (k := k) with no | ⟨p, ep, j, hj⟩
    · refine ⟨false, .miss no, (⟨(fun z => absurd z Bool.false_ne_true), (fun z => ?_)⟩ : _ ↔ _)⟩
      have z := z _ List.mem_cons_self
      have c := rb.val k
      rw [show valV ls k = some (V.int i) from z] at c
      obtain ⟨y, hy, _⟩ := c.some_of
      cases e : atKey vb k with
      | none =>
        rw [e] at hy
        cases hy
      | some p =>
        rcases atKey_at (xs := vb) (k := k) with no2 | ⟨p2, _, j2, hj2⟩
        · unfold atKey at e
          cases e2 : vb.find? (fun x => decide (x.1 = k)) with
          | none =>
            rw [e2] at e
            cases e
          | some x =>
            obtain ⟨j3, hj3⟩ := List.getElem?_of_mem (List.mem_of_find?_eq_some e2)
            have h5 : x.1 = k := by
              have z := List.find?_some e2
              exact of_decide_eq_true z
            exact absurd (by rw [hj3, ← h5]) (no j3 x.2)
        · exact absurd hj2 (no j2 p2)
    · have c := rb.val k
      rw [ep] at c
      cases ev : valV ls k with
      | none =>
        rw [ev] at c
        exact False.elim c
      | some y =>
        rw [ev] at c
        obtain ⟨m, rfl⟩ : ∃ m, y = V.int m := by
          obtain ⟨j4, h4⟩ : ∃ q ∈ ls, q.2 = y := by
            have z := ev
            unfold valV at z
            cases e2 : ls.find? (fun kv => decide (kv.1 = k)) with
            | none =>
              rw [e2] at z
              cases z
            | some q =>
              rw [e2] at z
              exact ⟨q, List.mem_of_find?_eq_some e2, Option.some.inj z⟩
          obtain ⟨m, hm⟩ := ib j4 h4.1
          exact ⟨m, by rw [← h4.2, hm]⟩
        obtain ⟨tm, em⟩ : ∃ t, p.2 = .int m t := c
        have eqp : SeqAt.EqP P w A s (.int i tk) p.2 (PyData.eqv (.int i) (.int m)) := by
          rw [em]
          exact (PySem.W.keq_flat (fun _ => .int _ _) (fun _ => .int _ _)).eqP
        have uniq : ∀ (j' : Nat) (p' : Addr × Value), vb[j']? = some (k, p') → p' = p := fun j' p' hj' => by
          have q1 : (vb.map (·.1))[j]? = some k := by rw [List.getElem?_map, hj]; rfl
          have q2 : (vb.map (·.1))[j']? = some k := by rw [List.getElem?_map, hj']; rfl
          have ee := nodup_at nb q1 q2
          rw [← ee, hj] at hj'
          exact (Prod.mk.inj (Option.some.inj hj')).2.symm
        refine ⟨_, .hit (e := PyData.eqv (.int i) (.int m)) (fun j' p' hj' => by rw [uniq j' p' hj']; exact eqp) ⟨j, p, hj⟩ hr, ?_⟩
        have e1 : PyData.eqv (.int i) (.int m) = decide (i = m) := by
          rw [show PyData.eqv (.int i) (.int m) = (i == m) from by simp [PyData.eqv]]
          exact Bool.eq_iff_iff.mpr (by simp)
        rw [Bool.and_eq_true, er, e1, decide_eq_true_eq]
        constructor
        · rintro ⟨rfl, z⟩ p hp
          rcases List.mem_cons.mp hp with rfl | hp
          · exact ev
          · exact z p hp
        · intro z
          have z0 := z _ List.mem_cons_self
          rw [show valV ls k = some (V.int m) from ev] at z0
          cases z0
          exact ⟨rfl, fun p hp => z p (List.mem_cons_of_mem _ hp)⟩
/-- d == e, two dictionaries by tuples -/
def rEqT : R2 := fun x y H Q => ∃ a b ka kb, x = .ref a ∧ y = .ref b ∧ H a = some (.dT ka) ∧ H b = some (.dT kb) ∧ (∀ p ∈ ka, ∃ i, p.2 = V.int i) ∧ (∀ p ∈ kb, ∃ i, p.2 = V.int i) ∧ ∀ r : Bool, (r = true ↔ ka.length = kb.length ∧ ∀ p ∈ ka, valV kb p.1 = some p.2) → Q (.bl r) H
theorem op_eqT {X : Cx} (hu : X.A.units + 64 < cLine) : OpR X (compareOp .Eq) rEqT := by
  intro pins s σ H x y v u Q I rx ry h
  obtain ⟨a, b, ka, kb, rfl, rfl, ha, hb, ia, ib, q⟩ := h
  cases (show v = Value.ref a from rx)
  cases (show u = Value.ref b from ry)
  obtain ⟨_, ya, va, ra, da⟩ := dt_of I.hok ha
  obtain ⟨_, yb, vb, rb, db⟩ := dt_of I.hok hb
  have nb : (vb.map (·.1)).Nodup := by
    obtain ⟨_, _, _, _, _, _, _, _, n⟩ := db
    exact n
  obtain ⟨r, hr, er⟩ := hitsH_run (P := X.prog) (w := X.w) (A := X.A.in1) (s := s) rb nb ib ra ia
  refine rcP_dictsH (r := r) ya yb da db (by omega) (by show X.A.units + 1 < cLine; omega) (fun _ => hr) _ _ ⟨.bl _, H, I, rfl, q _ ?_⟩
  rw [Bool.and_eq_true, er, beq_iff_eq, ← ra.length, ← rb.length]

-- imports KE.DataEq
/-! ### data of tuples and ints is equal to itself -/
def flatT : Nat → PyData → Prop
  | n + 1, .tuple ds => ∀ d ∈ ds, flatT n d
  | _ + 1, .int _ => True
  | _, _ => False
theorem layAll : ∀ {ds : List PyData}, (∀ d ∈ ds, d.canLay0 = true) → PyData.canLayAll0 ds = true
  | [], _ => by simp only [PyData.canLayAll0]
  | d :: ds, h => by
    simp only [PyData.canLayAll0, h d List.mem_cons_self, layAll fun y hy => h y (List.mem_cons_of_mem _ hy), Bool.and_self]
theorem depAll {n : Nat} : ∀ {ds : List PyData}, (∀ d ∈ ds, d.depth ≤ n) → PyData.depthAll ds ≤ n
  | [], _ => by simp [PyData.depthAll]
  | d :: ds, h => by
    have h1 := h d List.mem_cons_self
    have h2 := depAll fun y hy => h y (List.mem_cons_of_mem _ hy)
    simp only [PyData.depthAll]
    omega
theorem flatT.lay : ∀ {n : Nat} {d : PyData}, flatT n d → d.canLay0 = true ∧ d.depth ≤ n
  | 0, _, h => absurd h (by unfold flatT; simp)
  | n + 1, .tuple ds, h => by
    have h : ∀ d ∈ ds, flatT n d := h
    refine ⟨?_, ?_⟩
    · simp only [PyData.canLay0]
      exact layAll fun d hd => (flatT.lay (h d hd)).1
    · have := depAll fun d hd => (flatT.lay (h d hd)).2
      simp only [PyData.depth]
      omega
  | n + 1, .int _, _ => by simp [PyData.canLay0, PyData.depth]
  | _ + 1, .none, h => nomatch h
  | _ + 1, .bool _, h => nomatch h
  | _ + 1, .str _, h => nomatch h
  | _ + 1, .list _, h => nomatch h
  | _ + 1, .dict _, h => nomatch h
theorem flatT.shp {n : Nat} {d : PyData} (h : flatT n d) (l : n ≤ 64) : SeqAt.shaped d = true ∧ PyData.eqv d d = true := by
  obtain ⟨h1, h2⟩ := h.lay
  refine ⟨?_, SeqAt.eqv_refl_plain d (PyData.plain_of_canLay0 d h1)⟩
  unfold SeqAt.shaped
  rw [h1, decide_eq_true (Nat.le_trans h2 l)]
  rfl

/-! ### is it a table? -/
def entB (c n : Int) : Ent → Bool
  | none => true
  | some e => (decide (0 ≤ e.1) && decide (e.1 ≤ c - 1)) && ((decide (0 ≤ e.2.1) && decide (e.2.1 ≤ 3)) && (decide (0 ≤ e.2.2) && decide (e.2.2 ≤ n - 1)))
def tabB : List (List Ent) → Bool
  | [] => false
  | r0 :: rs => decide ((r0 :: rs).length ≤ 10) && (((r0 :: rs).all fun r => decide (r.length = r0.length) && r.all (entB r.length (r0 :: rs).length)) && (decide (2 ≤ r0.length) && decide (r0.length ≤ 6)))
def spWhole : Sp := fun vs H Q _ => ∃ v lo hi : Int, vs = [.int v, .int lo, .int hi] ∧ Q (.bl (decide (lo ≤ v) && decide (v ≤ hi))) H
def spEntry (K : PySem.W.Frag) : Sp := fun vs H Q _ => ∃ (v : V) (c n : Int) (e : Ent), vs = [v, .int c, .int n] ∧ Tp K H v (entD e) ∧ Q (.bl (entB c n e)) H
def spIsTable (K : PySem.W.Frag) : Sp := fun vs H Q _ => ∃ (v : V) (T : List (List Ent)), vs = [v] ∧ Tp K H v (tabD T) ∧ T.length ≤ 1000 ∧ (∀ r ∈ T, r.length ≤ 1000) ∧ ∀ H', Same H H' → Q (.bl (tabB T)) H'
section
variable {P : Program} {w : World} {K : PySem.W.Frag} {mg : Str → Option Value} {base : Heap}
theorem ok_is_whole (T : Txt K mg) (D : DefAt K mg "is_whole" s_is_whole ["value", "least", "greatest"]) : Cal P w K mg base CX0 "is_whole" 1 ["value", "least", "greatest"] spWhole := by
  refine D.cal sc_is_whole (fun vs H Q E h => ?_) (fun f cdv A outer s H vs Q E hr h => ?_)
  · obtain ⟨v, lo, hi, rfl, _⟩ := h
    rfl
  · obtain ⟨v, lo, hi, rfl, q⟩ := h
    refine ⟨_, (pss_cons (ps_if (PW.pt (pw_or (pt_not (pt_val (pe_callB (k_isN (K := K)) (by rfl) T.m_isinstance (by decide +kernel) (pa_cons (pv 0) (pa_cons (pe_ty "int" (by rfl) T.m_int (by decide +kernel)) pa_nil))))) (pw_or1 (pt_val (pe_callB (k_isN (K := K)) (by rfl) T.m_isinstance (by decide +kernel) (pa_cons (pv 0) (pa_cons (pe_ty "bool" (by rfl) T.m_bool (by decide +kernel)) pa_nil))))))) (pss_one (ps_ret pe_bl)) pss_nil)
      (pss_one (ps_ret (pe_chain op_le op_le (pv 1) (pv 0) (pv 2))))), ?_⟩
    walk_at "st"
    refine ite2 (fun e => ?_) (fun e => ?_)
    · walk_at "st"
      rw [e, Bool.true_and] at q
      exact q
    · rw [Bool.eq_false_iff.mpr e, Bool.false_and] at q
      exact q
theorem ok_u_is_entry (T : Txt K mg) (D : DefAt K mg "_is_entry" s_u_is_entry ["value", "colours", "states"]) (C_is_whole : Cal P w K mg base CX0 "is_whole" 1 ["value", "least", "greatest"] spWhole) : Cal P w K mg base CX0 "_is_entry" 2 ["value", "colours", "states"] (spEntry K) := by
  refine D.cal sc_u_is_entry (fun vs H Q E h => ?_) (fun f cdv A outer s H vs Q E hr h => ?_)
  · obtain ⟨v, c, n, e, rfl, _⟩ := h
    rfl
  · obtain ⟨v, c, n, e, rfl, hv, q⟩ := h
    refine ⟨_, (pss_cons (ps_if (pt_cmpR op_isN (pv 0) pe_non (nomark _)) (pss_one (ps_ret pe_bl)) pss_nil)
      (pss_cons (ps_if (PW.pt (pw_or (pt_not (pt_val (pe_callB (k_isN (K := K)) (by rfl) T.m_isinstance (by decide +kernel) (pa_cons (pv 0) (pa_cons (pe_ty "tuple" (by rfl) T.m_tuple (by decide +kernel)) pa_nil))))) (pw_or1 (pt_cmpR op_ne (pe_callB (k_len_t (K := K)) (by rfl) T.m_len (by decide +kernel) (pa_cons (pv 0) pa_nil)) pe_int (nomark _))))) (pss_one (ps_ret pe_bl)) pss_nil)
      (pss_cons (ps_asg (pv 0) (pg_tup (by rfl) (pgs_cons (pg_name (i := 3) sc_u_is_entry.nd rfl (Or.inl rfl)) (pgs_cons (pg_name (i := 4) sc_u_is_entry.nd rfl (Or.inl rfl)) (pgs_cons (pg_name (i := 5) sc_u_is_entry.nd rfl (Or.inl rfl)) pgs_nil)))))
      (pss_one (ps_ret (pe_and (pe_own C_is_whole hr (by first | decide | omega) (pa_cons (pv 3) (pa_cons pe_int (pa_cons (pe_op op_sub (pv 1) pe_int) pa_nil)))) (pe_and (pe_own C_is_whole hr (by first | decide | omega) (pa_cons (pv 4) (pa_cons pe_int (pa_cons pe_int pa_nil)))) (pe_one (pe_own C_is_whole hr (by first | decide | omega) (pa_cons (pv 5) (pa_cons pe_int (pa_cons (pe_op op_sub (pv 2) pe_int) pa_nil)))))))))))), ?_⟩
    cases e with
    | none =>
      obtain rfl := hv.nonI
      walk_at "st"
      exact q
    | some e =>
      obtain ⟨a, rfl, hs⟩ := hv.int3
      walk_at "st"
      have q : Q (.bl ((decide (0 ≤ e.1) && decide (e.1 ≤ c - 1)) && ((decide (0 ≤ e.2.1) && decide (e.2.1 ≤ 3)) && (decide (0 ≤ e.2.2) && decide (e.2.2 ≤ n - 1))))) H := q
      refine ite2 (fun e1 => ?_) (fun e1 => ?_)
      · walk_at "st"
        rw [e1, Bool.true_and] at q
        refine ite2 (fun e2 => ?_) (fun e2 => ?_)
        · walk_at "st"
          rw [e2, Bool.true_and] at q
          exact q
        · rw [Bool.eq_false_iff.mpr e2, Bool.false_and] at q
          exact q
      · rw [Bool.eq_false_iff.mpr e1, Bool.false_and] at q
        exact q
theorem ok_is_table (T : Txt K mg) (D : DefAt K mg "is_table" s_is_table ["value"]) (C_is_entry : Cal P w K mg base CX0 "_is_entry" 2 ["value", "colours", "states"] (spEntry K)) : Cal P w K mg base CX0 "is_table" 3 ["value"] (spIsTable K) := by
  refine D.cal sc_is_table (fun vs H Q E h => ?_) (fun f cdv A outer s H vs Q E hr h => ?_)
  · obtain ⟨v, T, rfl, _⟩ := h
    rfl
  · obtain ⟨v, Tb, rfl, hv, hl, hr1, q⟩ := h
    refine ⟨_, (pss_cons (ps_if (PW.pt (pw_or (pt_not (pt_val (pe_callB (k_isN (K := K)) (by rfl) T.m_isinstance (by decide +kernel) (pa_cons (pv 0) (pa_cons (pe_ty "tuple" (by rfl) T.m_tuple (by decide +kernel)) pa_nil))))) (pw_or1 (pt_not (pt_chain op_le op_le pe_int (pe_callB (k_len_t (K := K)) (by rfl) T.m_len (by decide +kernel) (pa_cons (pv 0) pa_nil)) (pe_gint (by rfl) T.most_states)))))) (pss_one (ps_ret pe_bl)) pss_nil)
      (pss_cons (ps_for PassesOwn.never rfl (k_pi_tup (K := K) (pv 0)) (pg_name (i := 1) sc_is_table.nd rfl (Or.inr rfl))
      (pss_cons (ps_if (PW.pt (pw_or (pt_not (pt_val (pe_callB (k_isN (K := K)) (by rfl) T.m_isinstance (by decide +kernel) (pa_cons (pv 1) (pa_cons (pe_ty "tuple" (by rfl) T.m_tuple (by decide +kernel)) pa_nil))))) (pw_or1 (pt_cmpR op_ne (pe_callB (k_len_t (K := K)) (by rfl) T.m_len (by decide +kernel) (pa_cons (pv 1) pa_nil)) (pe_callB (k_len_t (K := K)) (by rfl) T.m_len (by decide +kernel) (pa_cons (pe_ix (k_ix_tup (K := K)) (pv 0) pe_int (fun _ _ => rfl)) pa_nil)) (nomark _))))) (pss_one (ps_ret pe_bl)) pss_nil)
      (pss_one (ps_if (pt_not (pt_val (pe_callB (k_all (K := K) rfl) (by rfl) T.m_all (by decide +kernel) (pa_cons (pe_lc (own := [("entry", 2)]) (g := gName 2) rfl sc_is_table.nd (k_pi_tup (K := K) (pv 1)) (blkOk_by (by rfl)) (fun _ _ _ _ _ => (pg_name (i := 2) sc_is_table.nd rfl (Or.inl rfl))) (fun _ _ _ _ _ => pts_nil) (fun _ _ _ _ _ => (pe_own C_is_entry hr (by first | decide | omega) (pa_cons (pv 2) (pa_cons (pe_callB (k_len_t (K := K)) (by rfl) T.m_len (by decide +kernel) (pa_cons (pv 1) pa_nil)) (pa_cons (pe_callB (k_len_t (K := K)) (by rfl) T.m_len (by decide +kernel) (pa_cons (pv 0) pa_nil)) pa_nil)))))) pa_nil)))) (pss_one (ps_ret pe_bl)) pss_nil))))
      (pss_one (ps_ret (pe_chain op_le op_le (pe_gint (by rfl) T.fewest_colours) (pe_callB (k_len_t (K := K)) (by rfl) T.m_len (by decide +kernel) (pa_cons (pe_ix (k_ix_tup (K := K)) (pv 0) pe_int (fun _ _ => rfl)) pa_nil)) (pe_gint (by rfl) T.most_colours)))))), ?_⟩
    obtain ⟨a, vs, rfl, hs, hvs⟩ := hv.tupI
    have hlen : vs.length = Tb.length := by rw [TpAll.length hvs, List.length_map]
    cases Tb with
    | nil =>
      obtain rfl := hvs.nilI
      walk_at "st"
      exact q H (Same.refl H)
    | cons r0 rs =>
      obtain ⟨v0, vr, rfl, h0, hvr⟩ := hvs.consI
      obtain ⟨a0, w0, rfl, hs0, hw0⟩ := h0.tupI
      have hl0 : w0.length = r0.length := by rw [TpAll.length hw0, List.length_map]
      have q : ∀ H', Same H H' → Q (.bl (decide ((r0 :: rs).length ≤ 10) && (((r0 :: rs).all fun r => decide (r.length = r0.length) && r.all (entB r.length (r0 :: rs).length)) && (decide (2 ≤ r0.length) && decide (r0.length ≤ 6))))) H' := q
      have hT : TpAll K H (V.ref a0 :: vr) ((r0 :: rs).map rowD) := hvs
      generalize hTb : (r0 :: rs) = Tb at *
      generalize hVs : (V.ref a0 :: vr) = vs at *
      have hat : atI vs (0 : Int) = some (.ref a0) := by rw [← hVs]; exact at0
      have hpos : 0 < vs.length := by rw [← hVs]; exact Nat.succ_pos _
      walk_at "st"
      refine ite2 (fun e1 => ?_) (fun e1 => ?_)
      · walk_at "st"
        refine ite2 (fun e2 => ?_) (fun e2 => ?_)
        · have e2 : ¬ ((vs.length : Int) ≤ 10) := nd_tr e2
          walk_at "st"
          rw [decide_eq_false (by omega), Bool.false_and] at q
          exact q H (Same.refl H)
        · have e2 : (vs.length : Int) ≤ 10 := nd_fl e2
          rw [decide_eq_true (by omega), Bool.true_and] at q
          walk_at "st"
          refine for_tup (K := K) (a := a) (xs := vs) (fun i σ H' => Ok (∃ y1 y2, σ = [some (.ref a), y1, y2] ∧ Same H H' ∧ ∀ r ∈ Tb.take i, (decide (r.length = r0.length) && r.all (entB r.length Tb.length)) = true))
            ⟨_, _, rfl, Same.refl H, fun r h => absurd h List.not_mem_nil⟩ (fun i σ H' _ ⟨y1, y2, _, sm, _⟩ => TK.seqT (Same.tk sm) hs) ?_ ?_
          · rintro i x σ H' hx ⟨y1, y2, rfl, sm, hall⟩
            have hi : i < Tb.length := by
              have z : i < vs.length := (List.getElem?_eq_some_iff.mp hx).1
              omega
            have hxr : Tp K H x (rowD Tb[i]) := by
              obtain ⟨z, e, hz⟩ := hT.get (i := i) (d := rowD Tb[i]) (by rw [List.getElem?_map, List.getElem?_eq_getElem hi]; rfl)
              rw [hx] at e
              cases e
              exact hz
            have hmem : Tb[i] ∈ Tb := List.getElem_mem hi
            have htk := take_more (List.getElem?_eq_getElem hi)
            generalize hrw : Tb[i] = rw at *
            obtain ⟨b, ws, rfl, hsb, hws⟩ := hxr.tupI
            have hlw : ws.length = rw.length := by rw [TpAll.length hws, List.length_map]
            have hs' := TK.seqT (Same.tk sm) hs
            have hs0' := TK.seqT (Same.tk sm) hs0
            have hsb' := TK.seqT (Same.tk sm) hsb
            have bad : (decide (rw.length = r0.length) && rw.all (entB rw.length Tb.length)) = false → Q (.bl false) H' := fun z => by
              have z2 : (Tb.all fun r => decide (r.length = r0.length) && r.all (entB r.length Tb.length)) = false := List.all_eq_false.mpr ⟨rw, hmem, by rw [z]; exact Bool.false_ne_true⟩
              have q' := q H' sm
              rw [z2, Bool.false_and] at q'
              exact q'
            have badS : (decide (rw.length = r0.length) && rw.all (entB rw.length Tb.length)) = false → ∀ H2, Same H' H2 → Q (.bl false) H2 := fun z H2 s2 => by
              have z2 : (Tb.all fun r => decide (r.length = r0.length) && r.all (entB r.length Tb.length)) = false := List.all_eq_false.mpr ⟨rw, hmem, by rw [z]; exact Bool.false_ne_true⟩
              have q' := q H2 (Same.trans sm s2)
              rw [z2, Bool.false_and] at q'
              exact q'
            walk_at "st"
            refine ite2 (fun e3 => ?_) (fun e3 => ?_)
            · have e3 := ne_tr e3
              walk_at "st"
              exact bad (by rw [decide_eq_false (by omega), Bool.false_and])
            · have e3 := ne_fl e3
              walk_at "st"
              intro L nL
              refine lc_tup (K := K) (a := b) (xs := ws) (fun j H2 => Ok (Same H' H2 ∧ H2 L = some (.lst (((rw.take j).map (entB rw.length Tb.length)).map V.bl)))) ⟨Same.new nL, upd_same⟩ (fun j H2 _ ⟨s2, _⟩ => TK.seqT (Same.tk s2) hsb') ?_ ?_
              · rintro j y H2 hy ⟨s2, hL⟩
                have hj : j < rw.length := by
                  have z : j < ws.length := (List.getElem?_eq_some_iff.mp hy).1
                  omega
                have hye : Tp K H y (entD rw[j]) := by
                  obtain ⟨z, e, hz⟩ := hws.get (i := j) (d := entD rw[j]) (by rw [List.getElem?_map, List.getElem?_eq_getElem hj]; rfl)
                  rw [hy] at e
                  cases e
                  exact hz
                have hye2 : Tp K H2 y (entD rw[j]) := Tp.mono (Same.tk (Same.trans sm s2)) _ _ hye
                have hs2 := TK.seqT (Same.tk s2) hs'
                have hsb2 := TK.seqT (Same.tk s2) hsb'
                have hsz : (((rw.take j).map (entB rw.length Tb.length)).map V.bl).length < sizeLine := by
                  rw [List.length_map, List.length_map, List.length_take]
                  have := hr1 rw hmem
                  exact small1000 (by omega)
                walk_at "st"
                refine ⟨Same.fresh s2 nL, ?_⟩
                rw [upd_same, take_more (List.getElem?_eq_getElem hj), List.map_append, List.map_append, hlw, hlen]
                rfl
              · rintro H2 ⟨s2, hL⟩
                rw [hlw, List.take_length] at hL
                walk_at "st"
                rw [List.all_map, show (id ∘ entB rw.length Tb.length) = entB rw.length Tb.length from rfl]
                refine ite2 (fun e4 => ?_) (fun e4 => ?_)
                · have e4 := nb_tr e4
                  walk_at "st"
                  exact badS (by rw [e4, Bool.and_false]) H2 s2
                · have e4 := nb_fl e4
                  refine ⟨_, _, rfl, Same.trans sm s2, fun r hr => ?_⟩
                  rw [htk] at hr
                  rcases List.mem_append.mp hr with h | h
                  · exact hall r h
                  · rw [List.mem_singleton.mp h, e4, decide_eq_true (by omega)]
                    rfl
          · rintro σ H' ⟨y1, y2, rfl, sm, hall⟩
            rw [hlen, List.take_length] at hall
            have hs' := TK.seqT (Same.tk sm) hs
            have hs0' := TK.seqT (Same.tk sm) hs0
            have q := q H' sm
            rw [List.all_eq_true.mpr hall, Bool.true_and] at q
            walk_at "st"
            refine ite2 (fun e3 => ?_) (fun e3 => ?_)
            · have e3 : (2 : Int) ≤ w0.length := of_decide_eq_true e3
              rw [decide_eq_true (by omega), Bool.true_and] at q
              walk_at "st"
              rw [show decide (r0.length ≤ 6) = decide ((w0.length : Int) ≤ 6) from decide_eq_decide.mpr (by omega)] at q
              exact q
            · have e3 : ¬ (2 : Int) ≤ w0.length := d_fl e3
              rw [decide_eq_false (by omega), Bool.false_and] at q
              exact q
      · exact absurd (decide_eq_true (show (1 : Int) ≤ vs.length by omega)) e1
end

/-! ### tables that are right -/
structure TabGood (T : List (List Ent)) : Prop where
  len : T.length ≤ 10
  rows : ∀ r ∈ T, r.length ≤ 6
  ents : ∀ r ∈ T, ∀ e ∈ r, EntOk 10 10 e
  ne : T ≠ []
  rne : ∀ r ∈ T, r ≠ []
theorem entB_ok {c n : Int} {e : Ent} (h : entB c n e = true) : EntOk c n e := by
  cases e with
  | none => trivial
  | some e =>
    simp only [entB, Bool.and_eq_true, decide_eq_true_eq] at h
    obtain ⟨⟨a, b⟩, ⟨c, d⟩, e, f⟩ := h
    exact ⟨⟨a, by omega⟩, ⟨c, by omega⟩, ⟨e, by omega⟩⟩
theorem EntOk.mono {c n c' n' : Int} {e : Ent} (h : EntOk c n e) (hc : c ≤ c') (hn : n ≤ n') : EntOk c' n' e := by
  cases e with
  | none => trivial
  | some e =>
    obtain ⟨⟨a, b⟩, ⟨c, d⟩, e, f⟩ := h
    exact ⟨⟨a, by omega⟩, ⟨c, d⟩, ⟨e, by omega⟩⟩
theorem tabB_all {r0 : List Ent} {rs : List (List Ent)} (h : tabB (r0 :: rs) = true) : (r0 :: rs).length ≤ 10 ∧ (∀ r ∈ r0 :: rs, r.length = r0.length ∧ ∀ e ∈ r, EntOk r.length (r0 :: rs).length e) ∧ 2 ≤ r0.length ∧ r0.length ≤ 6 := by
  have h : (decide ((r0 :: rs).length ≤ 10) && (((r0 :: rs).all fun r => decide (r.length = r0.length) && r.all (entB r.length (r0 :: rs).length)) && (decide (2 ≤ r0.length) && decide (r0.length ≤ 6)))) = true := h
  generalize hT : (r0 :: rs) = T at *
  simp only [Bool.and_eq_true, decide_eq_true_eq, List.all_eq_true] at h
  obtain ⟨a, b, c, d⟩ := h
  exact ⟨a, fun r hr => ⟨(b r hr).1, fun e he => entB_ok ((b r hr).2 e he)⟩, c, d⟩
theorem tabB_good {T : List (List Ent)} (h : tabB T = true) : TabGood T := by
  cases T with
  | nil => cases h
  | cons r0 rs =>
    obtain ⟨a, b, c, d⟩ := tabB_all h
    refine ⟨a, fun r hr => ?_, fun r hr e he => ?_, by simp, fun r hr z => ?_⟩
    · rw [(b r hr).1]; exact d
    · have := (b r hr).1
      exact ((b r hr).2 e he).mono (by omega) (by omega)
    · have := (b r hr).1
      rw [z] at this
      simp at this
      omega
theorem TabOk.good {c n : Nat} {T : List (List Ent)} (h : TabOk c n T) (h1 : 1 ≤ n) (h2 : n ≤ 2) (h3 : 2 ≤ c) (h4 : c ≤ 3) : tabB T = true := by
  obtain ⟨hl, hr⟩ := h
  cases T with
  | nil => simp at hl; omega
  | cons r0 rs =>
    have h0 := (hr r0 List.mem_cons_self).1
    show (decide ((r0 :: rs).length ≤ 10) && (((r0 :: rs).all fun r => decide (r.length = r0.length) && r.all (entB r.length (r0 :: rs).length)) && (decide (2 ≤ r0.length) && decide (r0.length ≤ 6)))) = true
    generalize hT : (r0 :: rs) = T at *
    simp only [Bool.and_eq_true, decide_eq_true_eq, List.all_eq_true]
    refine ⟨by omega, fun r hr' => ⟨by rw [(hr r hr').1, h0], fun e he => ?_⟩, by omega, by omega⟩
    have z := (hr r hr').2 e he
    rw [(hr r hr').1, hl]
    cases e with
    | none => rfl
    | some e =>
      obtain ⟨⟨a, b⟩, ⟨c, d⟩, e, f⟩ := z
      simp only [entB, Bool.and_eq_true, decide_eq_true_eq]
      exact ⟨⟨a, by omega⟩, ⟨c, by omega⟩, e, by omega⟩
def spCheckT (K : PySem.W.Frag) : Sp := fun vs H Q _ => ∃ (v : V) (T : List (List Ent)), vs = [v] ∧ Tp K H v (tabD T) ∧ tabB T = true ∧ ∀ H', Same H H' → Q .non H'
section
variable {P : Program} {w : World} {K : PySem.W.Frag} {mg : Str → Option Value} {base : Heap}
theorem ok_check_table (T : Txt K mg) (D : DefAt K mg "check_table" s_check_table ["value"]) (C_is_table : Cal P w K mg base CX0 "is_table" 3 ["value"] (spIsTable K)) : Cal P w K mg base CX0 "check_table" 4 ["value"] (spCheckT K) := by
  refine D.cal sc_check_table (fun vs H Q E h => ?_) (fun f cdv A outer s H vs Q E hr h => ?_)
  · obtain ⟨v, Tb, rfl, _⟩ := h
    rfl
  · obtain ⟨v, Tb, rfl, hv, hg, q⟩ := h
    refine ⟨_, (pss_one (ps_if (pt_not (pt_val (pe_own C_is_table hr (by first | decide | omega) (pa_cons (pv 0) pa_nil)))) (pss_one ps_never) pss_nil)), ?_⟩
    have g := tabB_good hg
    have h1 : Tb.length ≤ 1000 := by have := g.len; omega
    have h2 : ∀ r ∈ Tb, r.length ≤ 1000 := fun r hr => by have := g.rows r hr; omega
    walk_at "st"
    intro H' s'
    rw [hg]
    walk_at "st"
    exact q H' s'
end

/-! ### a thing taken out of a list -/
theorem TpAll.erase {K : PySem.W.Frag} {H : Hp} : ∀ {vs : List V} {ds : List PyData} {k : Nat}, TpAll K H vs ds → TpAll K H (vs.eraseIdx k) (ds.eraseIdx k)
  | [], [], _, _ => .nil
  | [], _ :: _, _, h => nomatch h
  | _ :: _, [], _, h => nomatch h
  | u :: us, e :: es, 0, h => by
    cases h with
    | cons h1 h2 => exact h2
  | u :: us, e :: es, k + 1, h => by
    cases h with
    | cons h1 h2 => exact .cons h1 (TpAll.erase h2)
theorem erase_map {α β : Type} (f : α → β) : ∀ (l : List α) (k : Nat), (l.map f).eraseIdx k = (l.eraseIdx k).map f
  | [], _ => rfl
  | _ :: _, 0 => rfl
  | a :: l, k + 1 => by
    show f a :: (l.map f).eraseIdx k = f a :: (l.eraseIdx k).map f
    rw [erase_map f l k]
theorem erase_mem {α : Type} : ∀ {l : List α} {k : Nat} {x : α}, x ∈ l.eraseIdx k → x ∈ l
  | [], _, _, h => h
  | _ :: _, 0, _, h => List.mem_cons_of_mem _ h
  | a :: l, k + 1, x, h => by
    rcases List.mem_cons.mp h with z | z
    · exact z ▸ List.mem_cons_self
    · exact List.mem_cons_of_mem _ (erase_mem z)
theorem seqIx {n : Nat} {v : Int} (h0 : 0 ≤ v) (h1 : v < n) : seqIndex? v n = some v.toNat := by
  unfold seqIndex?
  simp
  omega
theorem perm_erase {α : Type} : ∀ {l : List α} {k : Nat} {y : α}, l[k]? = some y → l.Perm (y :: l.eraseIdx k)
  | [], _, _, h => by simp at h
  | a :: l, 0, y, h => by
    cases h
    exact List.Perm.refl _
  | a :: l, k + 1, y, h => ((perm_erase (l := l) (k := k) h).cons a).trans (List.Perm.swap y a _)

/-! ### one of some things -/
def spPick (K : PySem.W.Frag) : Sp := fun vs H Q _ => ∃ (r L : Addr) (xs : List V), vs = [.ref r, .ref L] ∧ Row K H r ∧ H L = some (.lst xs) ∧ L ≠ r ∧ 1 ≤ xs.length ∧ xs.length ≤ 5000 ∧ ∀ (v : V) (H' : Hp) (k : Nat), xs[k]? = some v → Row K H' r → KeepB r H H' → Q v H'
section
variable {P : Program} {w : World} {K : PySem.W.Frag} {mg : Str → Option Value} {base : Heap}
local macro_rules | `(tactic| walk_at "cl") => `(tactic| first | (refine le_only ?_; omega) | (refine lt_only ?_; omega))
theorem ok_law_pick (T : Txt K mg) (D : DefAt K mg "_law_pick" s_law_pick ["row", "things"]) (C_law_taken : Cal P w K mg base CX0 "_law_taken" 1 ["row", "many"] (spTaken K)) : Cal P w K mg base CX0 "_law_pick" 2 ["row", "things"] (spPick K) := by
  refine D.cal sc_law_pick (fun vs H Q E h => ?_) (fun f cdv A outer s H vs Q E hr h => ?_)
  · obtain ⟨r, L, xs, rfl, _⟩ := h
    rfl
  · obtain ⟨r, L, xs, rfl, R, hL, ne, l1, l100, q⟩ := h
    refine ⟨_, (pss_one (ps_ret (pe_ix (k_ix_list (K := K)) (pv 1) (pe_own C_law_taken hr (by first | decide | omega) (pa_cons (pv 0) (pa_cons (pe_callB (k_len_l (K := K)) (by rfl) T.m_len (by decide +kernel) (pa_cons (pv 1) pa_nil)) pa_nil))) (fun _ _ => rfl)))), ?_⟩
    have hSL := SqL.of (K := K) hL
    have c1 : (0 : Int) < xs.length := by omega
    have c2 : (xs.length : Int) < 2 ^ 250 := by omega
    walk_at "st"
    intro v H1 v0 v1 R1 k1
    have hL1 := k1 _ _ ne hL
    have hSL1 := SqL.of (K := K) hL1
    have lv : v.toNat < xs.length := by omega
    have ev : xs[v.toNat]? = some xs[v.toNat] := List.getElem?_eq_getElem lv
    have hat : atI xs v = some xs[v.toNat] := by
      have z := atI_nat ev
      rw [show ((v.toNat : Nat) : Int) = v by omega] at z
      exact z
    walk_at "st"
    exact q _ _ _ ev R1 k1
end

/-! ### the law's turning tables -/
def tRow (L : List Pt) : List Ent := L.map fun e => some (e.1, e.2, 0)
def rgI (c : Nat) : List Int := (List.range c).map fun i : Nat => (i : Int)
def spTurnT (K : PySem.W.Frag) : Sp := fun vs H Q _ => ∃ r : Addr, vs = [.ref r] ∧ Row K H r ∧
  ∀ (v : V) (H' : Hp) (c : Nat) (L : List Pt), 2 ≤ c → c ≤ 5 → L.length = c → (∀ e ∈ L, e.2 = 1 ∨ e.2 = 3) → (L.map (·.1)).Perm (rgI c) → Tp K H' v (tabD [tRow L]) → Row K H' r → KeepB r H H' → Q v H'
section
variable {P : Program} {w : World} {K : PySem.W.Frag} {mg : Str → Option Value} {base : Heap}
local macro_rules | `(tactic| walk_at "cl") => `(tactic| first | (refine le_only ?_; omega) | (refine lt_only ?_; omega))
theorem ok_law_turning_table (T : Txt K mg) (D : DefAt K mg "_law_turning_table" s_law_turning_table ["row"]) (C_law_taken : Cal P w K mg base CX0 "_law_taken" 1 ["row", "many"] (spTaken K)) (C_law_pick : Cal P w K mg base CX0 "_law_pick" 2 ["row", "things"] (spPick K)) : Cal P w K mg base CX0 "_law_turning_table" 3 ["row"] (spTurnT K) := by
  refine D.cal sc_law_turning_table (fun vs H Q E h => ?_) (fun f cdv A outer s H vs Q E hr h => ?_)
  · obtain ⟨r, rfl, _⟩ := h
    rfl
  · obtain ⟨r, rfl, hrow, q⟩ := h
    refine ⟨_, (pss_cons (ps_par (i := 1) (j := 2) (by rfl) sc_law_turning_table.nd rfl rfl (by decide) rfl rfl (pa_cons (pe_op op_add pe_int (pe_own C_law_taken hr (by first | decide | omega) (pa_cons (pv 0) (pa_cons pe_int pa_nil)))) (pa_cons (pe_lst pa_nil) pa_nil)) (by rfl))
      (pss_cons (ps_set (i := 3) sc_law_turning_table.nd rfl (Or.inl rfl) (pe_listRg rfl (by rfl) T.m_list (prg_1 (by rfl) T.m_range (pv 1))))
      (pss_cons (ps_for PassesOwn.never rfl (pi_range1 (by rfl) T.m_range (pa_cons (pv 1) pa_nil)) (pg_name (i := 4) sc_law_turning_table.nd rfl (Or.inl rfl))
      (pss_one (ps_expr (pe_bm PySem.F.plainAttrs_list PySem.F.slot_list_append PySem.F.type_list_append mt_append (pv 2) (pa_cons (pe_tup (pa_cons (pe_bm PySem.F.plainAttrs_list PySem.F.slot_list_pop PySem.F.type_list_pop mt_popAt (pv 3) (pa_cons (pe_own C_law_taken hr (by first | decide | omega) (pa_cons (pv 0) (pa_cons (pe_callB (k_len_l (K := K)) (by rfl) T.m_len (by decide +kernel) (pa_cons (pv 3) pa_nil)) pa_nil))) pa_nil)) (pa_cons (pe_own C_law_pick hr (by first | decide | omega) (pa_cons (pv 0) (pa_cons (pe_lst (pa_cons pe_int (pa_cons pe_int pa_nil))) pa_nil))) (pa_cons pe_int pa_nil)))) pa_nil)))))
      (pss_one (ps_ret (pe_tup (pa_cons (pe_callTy (k_tuple_l (K := K)) (by rfl) T.m_tuple (by decide +kernel) (pa_cons (pv 2) pa_nil)) pa_nil))))))), ?_⟩
    walk_at "st"
    intro c' H1 hc0 hc4 R1 k1
    walk_at "st"
    intro p np
    have npr : p ≠ r := R1.ne np
    walk_at "st"
    refine ⟨RgOk.of_le (by omega) (by omega) (by omega) (by omega), fun l nl => ?_⟩
    have nlr : l ≠ r := (R1.new np).ne nl
    have nlp : l ≠ p := ne_of_none upd_same nl |>.symm
    walk_at "st"
    have e0 : rgV 0 (2 + c') = (rgI (2 + c').toNat).map V.int := by
      unfold rgV rgI
      rw [List.map_map, show (2 + c' - 0).toNat = (2 + c').toNat by omega]
      refine List.map_congr_left fun i _ => ?_
      show V.int (0 + (i : Int)) = V.int (i : Int)
      rw [Int.zero_add]
    have lrg : (rgI (2 + c').toNat).length = (2 + c').toNat := by
      unfold rgI
      rw [List.length_map, List.length_range]
    rw [e0]
    have kp : KeepB r H (upd H1 p (.lst [])) := k1.trans (KeepB.new np)
    refine for_range (lo := 0) (n := (2 + c').toNat) (fun i σ H' => Ok (∃ (y4 : Option V) (vs : List V) (L : List Pt) (xs : List Int), σ = [some (.ref r), some (.int (2 + c')), some (.ref p), some (.ref l), y4] ∧
      L.length = i ∧ (∀ e ∈ L, e.2 = 1 ∨ e.2 = 3) ∧ (L.map (·.1) ++ xs).Perm (rgI (2 + c').toNat) ∧ H' p = some (.lst vs) ∧ TpAll K H' vs ((tRow L).map entD) ∧ H' l = some (.lst (xs.map V.int)) ∧ Row K H' r ∧ KeepB r H H')) ?_ ?_ ?_
    · exact ⟨_, [], [], rgI (2 + c').toNat, rfl, rfl, fun _ h => absurd h List.not_mem_nil, List.Perm.refl _, by rw [upd_ne nlp.symm]; exact upd_same, .nil, upd_same, (R1.new np).new nl, kp.trans (KeepB.new nl)⟩
    · rintro i σ H4 hi ⟨y4, vs, L, xs, rfl, hL, hok, pm, hp, hvs, hl, R4, k4⟩
      have lx : L.length + xs.length = (2 + c').toNat := by
        have z := pm.length_eq
        rw [List.length_append, List.length_map, lrg] at z
        exact z
      have hSl := SqL.of (K := K) hl
      have lm : (xs.map V.int).length = xs.length := List.length_map _
      have cu0 : (0 : Int) < (xs.map V.int).length := by omega
      have cu1 : ((xs.map V.int).length : Int) < 2 ^ 250 := by omega
      walk_at "st"
      intro v H6 v0 v1 R6 k6
      have hl6 := k6 _ _ nlr hl
      have hp6 := k6 _ _ npr hp
      have lv : v.toNat < xs.length := by omega
      have hsq : seqIndex? v (xs.map V.int).length = some v.toNat := seqIx v0 v1
      have eX := List.getElem?_eq_getElem lv
      have ey : (xs.map V.int)[v.toNat]? = some (.int xs[v.toNat]) := by rw [List.getElem?_map, eX]; rfl
      have pmx : xs.Perm (xs[v.toNat] :: xs.eraseIdx v.toNat) := perm_erase eX
      generalize xs[v.toNat] = y at *
      refine ⟨l, xs.map V.int, v, v.toNat, .int y, rfl, rfl, hl6, by omega, by omega, hsq, ey, ?_⟩
      rw [erase_map]
      have t46 := k6.row R4
      have t7 : TK H6 (upd H6 l (.lst ((xs.eraseIdx v.toNat).map V.int))) := TK.lst hl6
      have R7 := R6.put (o := .lst ((xs.eraseIdx v.toNat).map V.int)) hl6 nlr
      have nl0 : H l = none := kp.back nl nlr
      have np0 : H p = none := k1.back np npr
      have k7 : KeepB r H (upd H6 l (.lst ((xs.eraseIdx v.toNat).map V.int))) := (k4.trans k6).fresh nl0
      have hl7 : (upd H6 l (.lst ((xs.eraseIdx v.toNat).map V.int))) l = some (.lst ((xs.eraseIdx v.toNat).map V.int)) := upd_same
      have hp7 : (upd H6 l (.lst ((xs.eraseIdx v.toNat).map V.int))) p = some (.lst vs) := by rw [upd_ne nlp.symm]; exact hp6
      have hvs7 := TpAll.mono (t46.trans t7) _ _ hvs
      generalize hH7 : upd H6 l (.lst ((xs.eraseIdx v.toNat).map V.int)) = H7 at *
      generalize xs.eraseIdx v.toNat = xs7 at *
      walk_at "st"
      intro m nm
      have nmr : m ≠ r := R7.ne nm
      refine ⟨r, m, _, rfl, R7.new nm, upd_same, nmr, by decide, by decide, fun tv H8 k ek R8 k8 => ?_⟩
      have hl8 := k8 _ _ nlr ((Same.new nm) _ _ hl7)
      have hp8 := k8 _ _ npr ((Same.new nm) _ _ hp7)
      have t8 := (TK.new (o := .lst [.int 1, .int 3]) nm).trans (k8.row (R7.new nm))
      have hvs8 := TpAll.mono t8 _ _ hvs7
      have kk8 : KeepB r H H8 := (k7.trans (KeepB.new nm)).trans k8
      obtain ⟨t, rfl, ht⟩ : ∃ t : Int, tv = .int t ∧ (t = 1 ∨ t = 3) := by
        match k, ek with
        | 0, e => exact ⟨1, (Option.some.inj e).symm, .inl rfl⟩
        | 1, e => exact ⟨3, (Option.some.inj e).symm, .inr rfl⟩
        | k + 2, e => exact absurd e (by simp)
      walk_at "st"
      intro u nu
      have hsz : vs.length < sizeLine := by
        have z := TpAll.length hvs
        rw [List.length_map] at z
        have z2 : (tRow L).length = L.length := List.length_map _
        exact small1000 (by omega)
      have s9 : Same H8 (upd H8 u (.tup [.int y, .int t, .int 0])) := Same.new nu
      have hp9 := s9 _ _ hp8
      have hl9 := s9 _ _ hl8
      have hx9 : Tp K (upd H8 u (.tup [.int y, .int t, .int 0])) (.ref u) (entD (some (y, t, 0))) := Tp.of_ints (ks := [y, t, 0]) (SqT.of upd_same)
      have R9 := R8.same s9
      have k9 : KeepB r H (upd H8 u (.tup [.int y, .int t, .int 0])) := kk8.trans (Same.keepB s9)
      have hvs9 := TpAll.mono (Same.tk s9) _ _ hvs8
      generalize hH9 : upd H8 u (.tup [.int y, .int t, .int 0]) = H9 at *
      refine ⟨p, vs, .ref u, rfl, rfl, hp9, hsz, ?_⟩
      have tu : TK H9 (upd H9 p (.lst (vs ++ [.ref u]))) := TK.lst hp9
      refine ⟨_, vs ++ [.ref u], L ++ [(y, t)], xs7, rfl, ?_, fun e he => ?_, ?_, upd_same, ?_, by rw [upd_ne nlp]; exact hl9, R9.put hp9 npr, k9.fresh np0⟩
      · rw [List.length_append, hL]; rfl
      · rcases List.mem_append.mp he with z | z
        · exact hok e z
        · rw [List.mem_singleton.mp z]
          exact ht
      · rw [List.map_append, List.append_assoc]
        exact (List.Perm.append_left _ pmx.symm).trans pm
      · show TpAll K _ _ (((L ++ [(y, t)]).map _).map entD)
        rw [List.map_append, List.map_append]
        exact TpAll.append (TpAll.mono tu _ _ hvs9) (.cons (Tp.mono tu _ _ hx9) .nil)
    · rintro σ H4 ⟨y4, vs, L, xs, rfl, hL, hok, pm, hp, hvs, hl, R4, k4⟩
      have lx : L.length + xs.length = (2 + c').toNat := by
        have z := pm.length_eq
        rw [List.length_append, List.length_map, lrg] at z
        exact z
      have hSp : SqL K H4 p vs := SqL.of hp
      walk_at "st"
      intro u1 nu1
      have hTu : SqT K (upd H4 u1 (.tup vs)) u1 vs := SqT.of upd_same
      walk_at "st"
      intro u2 nu2
      have s1 : Same H4 (upd (upd H4 u1 (.tup vs)) u2 (.tup [.ref u1])) := Same.trans (Same.new nu1) (Same.new nu2)
      refine q _ _ (2 + c').toNat L (by omega) (by omega) hL hok ?_ (.tup (SqT.of upd_same) (.cons (.tup (TK.seqT (TK.new nu2) hTu) (TpAll.mono (Same.tk s1) _ _ hvs)) .nil)) (R4.same s1) (k4.trans (Same.keepB s1))
      have xn : xs = [] := List.length_eq_zero_iff.mp (by omega)
      rw [xn, List.append_nil] at pm
      exact pm
end

/-! ### does a round turn both ways? -/
theorem tRow_at {L : List Pt} {k : Nat} (h : k < L.length) : (tRow L)[k]? = some (some (L[k].1, L[k].2, 0)) := by
  unfold tRow
  rw [List.getElem?_map, List.getElem?_eq_getElem h]
  rfl
def tuOf (L : List Pt) (k : Nat) : Int := ((L[k]?).map (·.2)).getD 0
def paOf (L : List Pt) (k : Nat) : Int := ((L[k]?).map (·.1)).getD 0
theorem inV_int {x : Int} {l : List Int} : inV (.int x) (l.map V.int) = decide (x ∈ l) := by
  unfold inV
  rw [List.any_map]
  rw [Bool.eq_iff_iff, List.any_eq_true, decide_eq_true_eq]
  constructor
  · rintro ⟨y, hy, e⟩
    have e : (y == x) = true := e
    rw [← eq_of_beq e]
    exact hy
  · intro h
    exact ⟨x, h, by show (x == x) = true; exact beq_self_eq_true x⟩
theorem flat_intsV {l : List Int} : (l.map V.int).all flatV = true := List.all_eq_true.mpr fun v hv => by
  obtain ⟨k, _, e⟩ := List.mem_map.mp hv
  rw [← e]
  rfl
/-- the table's entry by its row, once it is laid -/
theorem tab1 {K : PySem.W.Frag} {H : Hp} {v : V} {L : List Pt} (h : Tp K H v (tabD [tRow L])) : ∃ a b ws, v = .ref a ∧ SqT K H a [.ref b] ∧ SqT K H b ws ∧ ws.length = L.length ∧ TpAll K H ws ((tRow L).map entD) := by
  obtain ⟨a, vs, rfl, hs, hvs⟩ := h.tupI
  obtain ⟨u, us, rfl, hu, hus⟩ := hvs.consI
  obtain rfl := hus.nilI
  obtain ⟨b, ws, rfl, hb, hws⟩ := hu.tupI
  have z := TpAll.length hws
  rw [List.length_map] at z
  have z2 : (tRow L).length = L.length := List.length_map _
  exact ⟨a, b, ws, rfl, hs, hb, by omega, hws⟩
def spBoth (K : PySem.W.Frag) : Sp := fun vs H Q _ => ∃ (tv cv : V) (L : List Pt) (cs : List Nat), vs = [tv, cv] ∧ Tp K H tv (tabD [tRow L]) ∧ Tp K H cv (.tuple (cs.map fun k : Nat => PyData.int (k : Int))) ∧ (∀ k ∈ cs, k < L.length) ∧ cs.length ≤ 100 ∧ ∀ H', Same H H' → Q (.bl (decide ((1 : Int) ∈ cs.map (tuOf L)) && decide ((3 : Int) ∈ cs.map (tuOf L)))) H'
theorem ints_tp {K : PySem.W.Frag} {H : Hp} : ∀ {us : List V} {cs : List Nat}, TpAll K H us (cs.map fun k : Nat => PyData.int (k : Int)) → us = cs.map fun k : Nat => V.int (k : Int)
  | [], [], _ => rfl
  | [], _ :: _, h => nomatch h
  | _ :: _, [], h => nomatch h
  | u :: us, c :: cs, h => by
    cases h with
    | cons h1 h2 =>
      cases h1
      rw [ints_tp h2]
      rfl
section
variable {P : Program} {w : World} {K : PySem.W.Frag} {mg : Str → Option Value} {base : Heap}
local macro_rules | `(tactic| walk_at "cl") => `(tactic| first | (refine le_only ?_; omega) | (refine lt_only ?_; omega))
theorem ok_u_turns_both_ways (T : Txt K mg) (D : DefAt K mg "_turns_both_ways" s_u_turns_both_ways ["table", "colours"]) : Cal P w K mg base CX0 "_turns_both_ways" 1 ["table", "colours"] (spBoth K) := by
  refine D.cal sc_u_turns_both_ways (fun vs H Q E h => ?_) (fun f cdv A outer s H vs Q E hr h => ?_)
  · obtain ⟨tv, cv, L, cs, rfl, _⟩ := h
    rfl
  · obtain ⟨tv, cv, L, cs, rfl, ht, hc, lt, l100, q⟩ := h
    refine ⟨_, (pss_cons (ps_setLc (i := 2) (own := [("colour", 3)]) (g := gName 3) rfl sc_u_turns_both_ways.nd rfl rfl (sw_true rfl rfl rfl (by decide +kernel)) (k_pi_tup (K := K) (pv 1)) (blkOk_by (by rfl)) (fun _ _ _ _ _ => (pg_name (i := 3) sc_u_turns_both_ways.nd rfl (Or.inl rfl))) (fun _ _ _ _ _ => pts_nil) (fun _ _ _ _ _ => (pe_ix (k_ix_tup (K := K)) (pe_ix (k_ix_tup (K := K)) (pe_ix (k_ix_tup (K := K)) (pv 0) pe_int (fun _ _ => rfl)) (pv 3) (fun _ _ => rfl)) pe_int (fun _ _ => rfl))))
      (pss_one (ps_ret (pe_and (pe_cmpR op_in_seq (pe_gint (by rfl) T.right) (pv 2) (by rfl)) (pe_one (pe_cmpR op_in_seq (pe_gint (by rfl) T.left) (pv 2) (by rfl))))))), ?_⟩
    obtain ⟨a, b, ws, rfl, ha, hb, lw, hws⟩ := tab1 ht
    obtain ⟨e, us, rfl, he, hus⟩ := hc.tupI
    have eus := ints_tp hus
    subst eus
    have lu : (cs.map fun k : Nat => V.int (k : Int)).length = cs.length := List.length_map _
    walk_at "st"
    intro M nM
    refine lc_tup (K := K) (a := e) (xs := cs.map fun k : Nat => V.int (k : Int)) (fun j H2 => Ok (Same H H2 ∧ H2 M = some (.lst (((cs.take j).map (tuOf L)).map V.int)))) ⟨Same.new nM, upd_same⟩ (fun j H2 _ ⟨s2, _⟩ => TK.seqT (Same.tk s2) he) ?_ ?_
    · rintro j y H2 hy ⟨s2, hM⟩
      have hj : j < cs.length := by
        have z := (List.getElem?_eq_some_iff.mp hy).1
        omega
      obtain rfl : y = .int (cs[j] : Nat) := by
        rw [List.getElem?_map, List.getElem?_eq_getElem hj] at hy
        exact (Option.some.inj hy).symm
      have htk := take_more (List.getElem?_eq_getElem hj)
      have lk := lt _ (List.getElem_mem hj)
      have ex : tuOf L cs[j] = (L[cs[j]]).2 := by
        unfold tuOf
        rw [List.getElem?_eq_getElem lk]
        rfl
      obtain ⟨u, eu, hu⟩ := hws.get (i := cs[j]) (d := entD (some (L[cs[j]].1, L[cs[j]].2, 0))) (by rw [List.getElem?_map, tRow_at lk]; rfl)
      obtain ⟨b3, rfl, hb3⟩ := (show Tp K H u (.tuple [.int L[cs[j]].1, .int L[cs[j]].2, .int 0]) from hu).int3
      generalize hk : cs[j] = k at *
      generalize L[k].1 = p1 at *
      generalize L[k].2 = p2 at *
      have ha2 := TK.seqT (Same.tk s2) ha
      have hb2 := TK.seqT (Same.tk s2) hb
      have hb32 := TK.seqT (Same.tk s2) hb3
      have hat : atI ws (k : Int) = some (.ref b3) := atI_nat eu
      have hsz : (((cs.take j).map (tuOf L)).map V.int).length < sizeLine := by
        rw [List.length_map, List.length_map, List.length_take]
        exact small1000 (by omega)
      walk_at "st"
      refine ⟨Same.fresh s2 nM, ?_⟩
      rw [upd_same, htk, List.map_append, List.map_append, show [k].map (tuOf L) = [p2] from congrArg (fun x => [x]) ex]
      rfl
    · rintro H2 ⟨s2, hM⟩
      rw [lu, List.take_length] at hM
      have q := q H2 s2
      have hSM := SqL.of (K := K) hM
      have hSS : SqL K H2 M ((cs.map (tuOf L)).map V.int) ∨ SqT K H2 M ((cs.map (tuOf L)).map V.int) := .inl hSM
      have hfl : ((cs.map (tuOf L)).map V.int).all flatV = true := flat_intsV
      rw [← inV_int, ← inV_int] at q
      walk_at "st"
      rw [show (if false = true then !inV (V.int 1) (List.map V.int (List.map (tuOf L) cs)) else inV (V.int 1) (List.map V.int (List.map (tuOf L) cs))) = inV (V.int 1) (List.map V.int (List.map (tuOf L) cs)) from rfl]
      refine ite2 (fun e1 => ?_) (fun e1 => ?_)
      · rw [e1, Bool.true_and] at q
        walk_at "st"
        exact q
      · rw [Bool.eq_false_iff.mpr e1, Bool.false_and] at q
        exact q
end

/-! ### a turning table is no other -/
def rNoneIn (K : PySem.W.Frag) : R2 := fun x y H Q => ∃ ds, x = .non ∧ Dp K H y (.tuple ds) ∧ SeqAt.shaped (.tuple ds) = true ∧ Q (.bl (ds.any fun z => PyData.eqv z .none)) H
theorem op_noneIn {X : Cx} (hu : X.A.units + 65 < cLine) : OpR X (compareOp .In) (rNoneIn X.K) := by
  intro pins s σ H x y v u Q I rx ry h
  obtain ⟨ds, rfl, he, se, q⟩ := h
  obtain ⟨as, r1⟩ := Dp.reads I .none .non v .non rx
  obtain ⟨bs, r2⟩ := Dp.reads I (.tuple ds) y u he ry
  exact SeqAt.in_tuple_reads r2 r1 (SeqAt.canLay_of_shaped se) rfl (room_in_shaped (xs := ds) (d := .none) rfl hu) ⟨.bl _, H, I, rfl, q⟩
theorem k_noneIn {K : PySem.W.Frag} {X : Cx} (hu : X.A.units + 65 < cLine) (hK : X.K = K := by rfl) : OpR X (compareOp .In) (rNoneIn K) := hK ▸ op_noneIn hu
theorem k_sortedN {K : PySem.W.Frag} {X : Cx} (hK : X.K = K := by rfl) : CallR X (.builtin "sorted") (rSorted K) := hK ▸ cr_sorted
theorem k_notInF {K : PySem.W.Frag} {X : Cx} (hK : X.K = K := by rfl) : OpR X (compareOp .NotIn) (rIn K true) := hK ▸ op_notIn_seq
theorem hu65 {A : Around} {k : Nat} (hr : Room k A) : A.units + 65 < cLine := by have := hr.un; omega
structure TurnL (L : List Pt) : Prop where
  l2 : 2 ≤ L.length
  l6 : L.length ≤ 6
  tu : ∀ e ∈ L, e.2 = 1 ∨ e.2 = 3
  pm : (L.map (·.1)).Perm (rgI L.length)
theorem mem_rgI {c : Nat} {x : Int} : x ∈ rgI c ↔ 0 ≤ x ∧ x < c := by
  unfold rgI
  rw [List.mem_map]
  constructor
  · rintro ⟨k, hk, rfl⟩
    have := List.mem_range.mp hk
    omega
  · rintro ⟨h0, h1⟩
    exact ⟨x.toNat, List.mem_range.mpr (by omega), by omega⟩
theorem TurnL.pa {L : List Pt} (h : TurnL L) {e : Pt} (he : e ∈ L) : 0 ≤ e.1 ∧ e.1 < L.length :=
  mem_rgI.mp (h.pm.mem_iff.mp (List.mem_map_of_mem he))
theorem TurnL.good {L : List Pt} (h : TurnL L) : tabB [tRow L] = true := by
  have ll : (tRow L).length = L.length := List.length_map _
  have l2 := h.l2
  have l6 := h.l6
  show (decide (([tRow L] : List (List Ent)).length ≤ 10) && ((([tRow L] : List (List Ent)).all fun r => decide (r.length = (tRow L).length) && r.all (entB r.length ([tRow L] : List (List Ent)).length)) && (decide (2 ≤ (tRow L).length) && decide ((tRow L).length ≤ 6)))) = true
  rw [List.all_cons, List.all_nil, ll]
  have e : (tRow L).all (entB (L.length : Nat) (([tRow L] : List (List Ent)).length : Nat)) = true := by
    unfold tRow
    rw [List.all_map, List.all_eq_true]
    intro x hx
    have p := h.pa hx
    have t := h.tu x hx
    show ((decide (0 ≤ x.1) && decide (x.1 ≤ (L.length : Int) - 1)) && ((decide (0 ≤ x.2) && decide (x.2 ≤ 3)) && (decide ((0 : Int) ≤ 0) && decide ((0 : Int) ≤ (1 : Nat) - 1)))) = true
    rw [decide_eq_true p.1, decide_eq_true (by omega : x.1 ≤ (L.length : Int) - 1), decide_eq_true (by omega : 0 ≤ x.2), decide_eq_true (by omega : x.2 ≤ 3)]
    rfl
  rw [e, decide_eq_true l2, decide_eq_true l6]
  simp
theorem shp_row {L : List Pt} : SeqAt.shaped (.tuple ((tRow L).map entD)) = true := by
  refine (flatT.shp (n := 3) ?_ (by decide)).1
  intro d hd
  unfold tRow at hd
  rw [List.map_map] at hd
  obtain ⟨e, _, rfl⟩ := List.mem_map.mp hd
  intro x hx
  rcases List.mem_cons.mp hx with rfl | hx
  · trivial
  rcases List.mem_cons.mp hx with rfl | hx
  · trivial
  rw [List.mem_singleton.mp hx]
  trivial
theorem no_none {L : List Pt} : (((tRow L).map entD).any fun z => PyData.eqv z .none) = false := by
  rw [List.any_eq_false]
  intro d hd
  unfold tRow at hd
  rw [List.map_map] at hd
  obtain ⟨e, _, rfl⟩ := List.mem_map.mp hd
  show ¬ PyData.eqv (.tuple [.int e.1, .int e.2, .int 0]) .none = true
  simp [PyData.eqv]
theorem rg_sorted (c : Nat) : (rgI c).Pairwise (· ≤ ·) := by
  unfold rgI
  rw [List.pairwise_map]
  exact (List.pairwise_lt_range (n := c)).imp fun {a b} h => by omega
theorem sorted_rg {ns : List Int} {c : Nat} (pm : ns.Perm (rgI c)) (so : ns.Pairwise (· ≤ ·)) : ns = rgI c :=
  pm.eq_of_pairwise (fun a b _ _ h1 h2 => Int.le_antisymm h1 h2) so (rg_sorted c)
theorem rgV_rgI {n c : Nat} (h : n = c) : rgV 0 (n : Int) = (rgI c).map V.int := by
  subst h
  unfold rgV rgI
  rw [List.map_map, show ((n : Int) - 0).toNat = n by omega]
  refine List.map_congr_left fun i _ => ?_
  show V.int (0 + (i : Int)) = V.int (i : Int)
  rw [Int.zero_add]
theorem dp_ints {K : PySem.W.Frag} {H : Hp} : ∀ l : List Int, DpAll K H (l.map V.int) (l.map PyData.int)
  | [] => .nil
  | i :: l => .cons (.int i) (dp_ints l)
theorem shp_ints {l : List Int} : SeqAt.shaped (.list (l.map PyData.int)) = true ∧ PyData.eqv (.list (l.map PyData.int)) (.list (l.map PyData.int)) = true := by
  have h1 : PyData.canLay0 (.list (l.map PyData.int)) = true := by
    simp only [PyData.canLay0]
    exact layAll fun d hd => by
      obtain ⟨k, _, rfl⟩ := List.mem_map.mp hd
      simp [PyData.canLay0]
  have h2 : PyData.depth (.list (l.map PyData.int)) ≤ 64 := by
    have := depAll (n := 1) (ds := l.map PyData.int) fun d hd => by
      obtain ⟨k, _, rfl⟩ := List.mem_map.mp hd
      simp [PyData.depth]
    simp only [PyData.depth]
    omega
  refine ⟨?_, SeqAt.eqv_refl_plain _ (PyData.plain_of_canLay0 _ h1)⟩
  unfold SeqAt.shaped
  rw [h1, decide_eq_true h2]
  rfl
def spCheckTu (K : PySem.W.Frag) : Sp := fun vs H Q _ => ∃ (tv : V) (L : List Pt), vs = [tv] ∧ Tp K H tv (tabD [tRow L]) ∧ TurnL L ∧ ∀ H', Same H H' → Q .non H'
section
variable {P : Program} {w : World} {K : PySem.W.Frag} {mg : Str → Option Value} {base : Heap}
local macro_rules | `(tactic| walk_at "cl") => `(tactic| first | (refine le_only ?_; omega) | (refine lt_only ?_; omega))
theorem ok_u_check_turning (T : Txt K mg) (D : DefAt K mg "_check_turning" s_u_check_turning ["table"]) (C_check_table : Cal P w K mg base CX0 "check_table" 4 ["value"] (spCheckT K)) : Cal P w K mg base CX0 "_check_turning" 5 ["table"] (spCheckTu K) := by
  refine D.cal sc_u_check_turning (fun vs H Q E h => ?_) (fun f cdv A outer s H vs Q E hr h => ?_)
  · obtain ⟨tv, L, rfl, _⟩ := h
    rfl
  · obtain ⟨tv, L, rfl, ht, hL, q⟩ := h
    refine ⟨_, (pss_cons (ps_expr (pe_own C_check_table hr (by first | decide | omega) (pa_cons (pv 0) pa_nil)))
      (pss_cons (ps_if (PW.pt (pw_or (pt_cmpR op_ne (pe_callB (k_len_t (K := K)) (by rfl) T.m_len (by decide +kernel) (pa_cons (pv 0) pa_nil)) pe_int (nomark _)) (pw_or1 (pt_cmpR (k_noneIn (K := K) (hu65 hr)) pe_non (pe_ix (k_ix_tup (K := K)) (pv 0) pe_int (fun _ _ => rfl)) (by rfl))))) (pss_one ps_never) pss_nil)
      (pss_cons (ps_if (pt_val (pe_callB (k_any (K := K) rfl) (by rfl) T.m_any (by decide +kernel) (pa_cons (pe_lc (own := [("_", 1), ("turn", 2)]) (g := gTup K 3 (gCons (gName 1) (gCons (gName 2) (gCons (gName 1) gNil)))) rfl sc_u_check_turning.nd (k_pi_tup (K := K) (pe_ix (k_ix_tup (K := K)) (pv 0) pe_int (fun _ _ => rfl))) (blkOk_by (by rfl)) (fun _ _ _ _ _ => (k_pgT (K := K) 3 (by rfl) (pgs_cons (pg_name (i := 1) sc_u_check_turning.nd rfl (Or.inl rfl)) (pgs_cons (pg_name (i := 2) sc_u_check_turning.nd rfl (Or.inl rfl)) (pgs_cons (pg_name (i := 1) sc_u_check_turning.nd rfl (Or.inl rfl)) pgs_nil))))) (fun _ _ _ _ _ => pts_nil) (fun _ _ _ _ _ => (pe_cmpR (k_notInF (K := K)) (pv 2) (pe_tup (pa_cons (pe_gint (by rfl) T.right) (pa_cons (pe_gint (by rfl) T.left) pa_nil))) (by rfl)))) pa_nil))) (pss_one ps_never) pss_nil)
      (pss_one (ps_if (pt_cmpR (k_neD (K := K) hr.units) (pe_callB (k_sortedN (K := K)) (by rfl) T.m_sorted (by decide +kernel) (pa_cons (pe_lc (own := [("paint", 3), ("_", 1)]) (g := gTup K 3 (gCons (gName 3) (gCons (gName 1) (gCons (gName 1) gNil)))) rfl sc_u_check_turning.nd (k_pi_tup (K := K) (pe_ix (k_ix_tup (K := K)) (pv 0) pe_int (fun _ _ => rfl))) (blkOk_by (by rfl)) (fun _ _ _ _ _ => (k_pgT (K := K) 3 (by rfl) (pgs_cons (pg_name (i := 3) sc_u_check_turning.nd rfl (Or.inl rfl)) (pgs_cons (pg_name (i := 1) sc_u_check_turning.nd rfl (Or.inl rfl)) (pgs_cons (pg_name (i := 1) sc_u_check_turning.nd rfl (Or.inl rfl)) pgs_nil))))) (fun _ _ _ _ _ => pts_nil) (fun _ _ _ _ _ => (pv 3))) pa_nil)) (pe_listRg rfl (by rfl) T.m_list (prg_1 (by rfl) T.m_range (pe_callB (k_len_t (K := K)) (by rfl) T.m_len (by decide +kernel) (pa_cons (pe_ix (k_ix_tup (K := K)) (pv 0) pe_int (fun _ _ => rfl)) pa_nil)))) (nomark _)) (pss_one ps_never) pss_nil))))), ?_⟩
    have good := hL.good
    walk_at "st"
    intro H1 s1
    have ht1 := Tp.mono (Same.tk s1) _ _ ht
    obtain ⟨a, b, ws, rfl, ha, hb, lw, hws⟩ := tab1 ht1
    have hD : Dp K H1 (.ref b) (.tuple ((tRow L).map entD)) := .tup hb (TpAll.dp _ _ hws)
    have hS := shp_row (L := L)
    walk_at "st"
    rw [no_none]
    walk_at "st"
    intro M nM
    refine lc_tup (K := K) (a := b) (xs := ws) (fun j H2 => Ok (Same H1 H2 ∧ H2 M = some (.lst ((List.replicate j false).map V.bl)))) ⟨Same.new nM, upd_same⟩ (fun j H2 _ ⟨s2, _⟩ => TK.seqT (Same.tk s2) hb) ?_ ?_
    · rintro j y H2 hy ⟨s2, hM⟩
      have hj : j < L.length := by
        have z := (List.getElem?_eq_some_iff.mp hy).1
        omega
      have htu := hL.tu _ (List.getElem_mem hj)
      obtain ⟨u, eu, hu⟩ := hws.get (i := j) (d := entD (some (L[j].1, L[j].2, 0))) (by rw [List.getElem?_map, tRow_at hj]; rfl)
      rw [hy] at eu
      cases eu
      obtain ⟨b3, rfl, hb3⟩ := (show Tp K H1 y (.tuple [.int L[j].1, .int L[j].2, .int 0]) from hu).int3
      generalize L[j].1 = p1 at *
      generalize L[j].2 = p2 at *
      have hb32 := TK.seqT (Same.tk s2) hb3
      have hsz : ((List.replicate j false).map V.bl).length < sizeLine := by
        rw [List.length_map, List.length_replicate]
        exact small1000 (by have := hL.l6; omega)
      walk_at "st"
      intro p np
      have s3 : Same H2 (upd H2 p (.tup [.int 1, .int 3])) := Same.new np
      have hM3 := s3 _ _ hM
      refine ⟨p, [.int 1, .int 3], rfl, .inr (SqT.of upd_same), rfl, rfl, ?_⟩
      have ev : (if true = true then !inV (V.int p2) [V.int 1, V.int 3] else inV (V.int p2) [V.int 1, V.int 3]) = false := by
        rcases htu with rfl | rfl <;> rfl
      rw [ev]
      refine ⟨_, hM3, hsz, Same.fresh (Same.trans s2 s3) nM, ?_⟩
      rw [upd_same, List.replicate_succ', List.map_append]
      rfl
    · rintro H2 ⟨s2, hM⟩
      have s12 := Same.trans s1 s2
      have ha2 := TK.seqT (Same.tk s2) ha
      have hb2 := TK.seqT (Same.tk s2) hb
      have hws2 := TpAll.mono (Same.tk s2) _ _ hws
      rw [lw] at hM
      have hSM := SqL.of (K := K) hM
      walk_at "st"
      have eAny : ((List.replicate L.length false).any id) = false := by
        rw [List.any_eq_false]
        intro x hx
        rw [List.eq_of_mem_replicate hx]
        exact Bool.false_ne_true
      rw [eAny]
      walk_at "st"
      intro M2 nM2
      refine lc_tup (K := K) (a := b) (xs := ws) (fun j H3 => Ok (Same H2 H3 ∧ H3 M2 = some (.lst (((L.take j).map (·.1)).map V.int)))) ⟨Same.new nM2, upd_same⟩ (fun j H3 _ ⟨s3, _⟩ => TK.seqT (Same.tk s3) hb2) ?_ ?_
      · rintro j y H3 hy ⟨s3, hM2⟩
        have hj : j < L.length := by
          have z := (List.getElem?_eq_some_iff.mp hy).1
          omega
        have htk := take_more (List.getElem?_eq_getElem hj)
        obtain ⟨u, eu, hu⟩ := hws2.get (i := j) (d := entD (some (L[j].1, L[j].2, 0))) (by rw [List.getElem?_map, tRow_at hj]; rfl)
        rw [hy] at eu
        cases eu
        obtain ⟨b3, rfl, hb3⟩ := (show Tp K H2 y (.tuple [.int L[j].1, .int L[j].2, .int 0]) from hu).int3
        have hb33 := TK.seqT (Same.tk s3) hb3
        have hsz : (((L.take j).map (·.1)).map V.int).length < sizeLine := by
          rw [List.length_map, List.length_map, List.length_take]
          exact small1000 (by have := hL.l6; omega)
        walk_at "st"
        refine ⟨Same.fresh s3 nM2, ?_⟩
        rw [upd_same, htk, List.map_append, List.map_append]
        rfl
      · rintro H3 ⟨s3, hM2⟩
        rw [lw, List.take_length] at hM2
        have hb3 := TK.seqT (Same.tk s3) hb2
        have ha3 := TK.seqT (Same.tk s3) ha2
        have hSM2 := SqL.of (K := K) hM2
        walk_at "st"
        refine ⟨by rw [List.length_map]; have := hL.l6; omega, fun ns p pm so np => ?_⟩
        have ens : ns = rgI L.length := sorted_rg (pm.trans hL.pm) so
        subst ens
        have sp : Same H3 (upd H3 p (.lst ((rgI L.length).map V.int))) := Same.new np
        have ha4 := TK.seqT (Same.tk sp) ha3
        have hb4 := TK.seqT (Same.tk sp) hb3
        walk_at "st"
        refine ⟨RgOk.of_le (by omega) (by have := hL.l6; omega) (by omega) (by omega), fun l nl => ?_⟩
        have e0 : rgV 0 (ws.length : Int) = (rgI L.length).map V.int := rgV_rgI lw
        rw [e0]
        have nlp : p ≠ l := ne_of_none upd_same nl
        have hp5 : (upd (upd H3 p (.lst ((rgI L.length).map V.int))) l (.lst ((rgI L.length).map V.int))) p = some (.lst ((rgI L.length).map V.int)) := by rw [upd_ne nlp]; exact upd_same
        refine ⟨.list ((rgI L.length).map PyData.int), .list ((rgI L.length).map PyData.int), .lst (SqL.of hp5) (dp_ints _), .lst (SqL.of upd_same) (dp_ints _), shp_ints.1, shp_ints.1, ?_⟩
        rw [shp_ints.2]
        walk_at "st"
        exact q _ (Same.trans s12 (Same.trans s3 (Same.trans sp (Same.new nl))))
end

/-! ### the rounds of a turning table -/
def paN (L : List Pt) (k : Nat) : Nat := (paOf L k).toNat
def itN (L : List Pt) : Nat → Nat → Nat
  | 0, k => k
  | n + 1, k => paN L (itN L n k)
def nV (l : List Nat) : List V := l.map fun k : Nat => V.int (k : Int)
def rnD (R : List Nat) : PyData := .tuple (R.map fun k : Nat => PyData.int (k : Int))
structure RoundsOk (L : List Pt) (Rs : List (List Nat)) : Prop where
  len : Rs.length ≤ 6
  lt : ∀ R ∈ Rs, R.length ≤ 6 ∧ ∀ k ∈ R, k < L.length
  all : ∀ k, k < L.length → ∃ R ∈ Rs, k ∈ R
  orb : ∀ R ∈ Rs, ∃ s, s < L.length ∧ ∀ k ∈ R, ∃ i, k = itN L i s
theorem inV_nat {k : Nat} {l : List Nat} : inV (.int (k : Int)) (nV l) = decide (k ∈ l) := by
  unfold inV nV
  rw [List.any_map, Bool.eq_iff_iff, List.any_eq_true, decide_eq_true_eq]
  constructor
  · rintro ⟨y, hy, e⟩
    have e : ((y : Int) == (k : Int)) = true := e
    have e := eq_of_beq e
    rw [show k = y by omega]
    exact hy
  · intro h
    exact ⟨k, h, by show ((k : Int) == (k : Int)) = true; exact beq_self_eq_true _⟩
theorem flat_nats {l : List Nat} : (nV l).all flatV = true := List.all_eq_true.mpr fun v hv => by
  obtain ⟨k, _, e⟩ := List.mem_map.mp hv
  rw [← e]
  rfl
theorem TurnL.paN_lt {L : List Pt} (h : TurnL L) {k : Nat} (hk : k < L.length) : paN L k < L.length ∧ (L[k]).1 = (paN L k : Int) := by
  have p := h.pa (List.getElem_mem hk)
  have e : paOf L k = (L[k]).1 := by
    unfold paOf
    rw [List.getElem?_eq_getElem hk]
    rfl
  unfold paN
  rw [e]
  omega
theorem TurnL.it_lt {L : List Pt} (h : TurnL L) {k : Nat} (hk : k < L.length) : ∀ n, itN L n k < L.length
  | 0 => hk
  | n + 1 => (h.paN_lt (h.it_lt hk n)).1
theorem nat_ints_tp {K : PySem.W.Frag} {H : Hp} : ∀ l : List Nat, TpAll K H (nV l) (l.map fun k : Nat => PyData.int (k : Int))
  | [] => .nil
  | i :: l => .cons (.int i) (nat_ints_tp l)
theorem nodup_few {l : List Nat} {c : Nat} (nd : l.Nodup) (lt : ∀ k ∈ l, k < c) : l.length ≤ c := by
  have key : ∀ (c : Nat) (l : List Nat), l.Nodup → (∀ k ∈ l, k < c) → l.length ≤ c := by
    intro c
    induction c with
    | zero =>
      intro l _ lt
      cases l with
      | nil => exact Nat.le_refl _
      | cons a l => exact absurd (lt a List.mem_cons_self) (Nat.not_lt_zero _)
    | succ c ih =>
      intro l nd lt
      have h1 := ih (l.erase c) (nd.erase c) fun k hk => by
        have hk' := (nd.mem_erase_iff).mp hk
        have := lt k hk'.2
        have := hk'.1
        omega
      have h2 : l.length ≤ (l.erase c).length + 1 := by
        rw [List.length_erase]
        split <;> omega
      omega
  exact key c l nd lt
theorem TurnL.inj {L : List Pt} (h : TurnL L) {j k : Nat} (hj : j < L.length) (hk : k < L.length) (e : paN L j = paN L k) : j = k := by
  have nd : (L.map (·.1)).Nodup := h.pm.nodup_iff.mpr (by
    have := rg_sorted L.length
    unfold rgI
    exact List.pairwise_map.mpr ((List.nodup_range (n := L.length)).imp fun {a b} n z => n (by omega)))
  have q := List.pairwise_iff_getElem.mp nd
  have e1 := (h.paN_lt hj).2
  have e2 := (h.paN_lt hk).2
  rcases Nat.lt_trichotomy j k with z | z | z
  · have := q j k (by rw [List.length_map]; exact hj) (by rw [List.length_map]; exact hk) z
    rw [List.getElem_map, List.getElem_map, e1, e2, e] at this
    exact absurd rfl this
  · exact z
  · have := q k j (by rw [List.length_map]; exact hk) (by rw [List.length_map]; exact hj) z
    rw [List.getElem_map, List.getElem_map, e1, e2, e] at this
    exact absurd rfl this
/-- the round of s: its firsts, all unlike, up to where it comes again -/
structure IsCyc (L : List Pt) (s : Nat) (l : List Nat) : Prop where
  fst : l = (List.range l.length).map fun j => itN L j s
  ne : l ≠ []
  nd : l.Nodup
  back : itN L l.length s ∈ l
theorem IsCyc.at {L : List Pt} {s : Nat} {l : List Nat} (h : IsCyc L s l) {j : Nat} (lt : j < l.length) : l[j] = itN L j s := by
  have q : l[j]? = some (itN L j s) := by
    rw [h.fst, List.getElem?_map, List.getElem?_range lt]
    rfl
  rw [List.getElem?_eq_getElem lt] at q
  exact Option.some.inj q
theorem IsCyc.mem {L : List Pt} {s : Nat} {l : List Nat} (h : IsCyc L s l) {j : Nat} (lt : j < l.length) : itN L j s ∈ l := by
  rw [← h.at lt]
  exact List.getElem_mem lt
theorem IsCyc.pos {L : List Pt} {s : Nat} {l : List Nat} (h : IsCyc L s l) : 0 < l.length := List.length_pos_iff.mpr h.ne
theorem IsCyc.of_mem {L : List Pt} {s x : Nat} {l : List Nat} (h : IsCyc L s l) (hx : x ∈ l) : ∃ j, j < l.length ∧ x = itN L j s := by
  obtain ⟨j, lt, e⟩ := List.getElem_of_mem hx
  exact ⟨j, lt, by rw [← e, h.at lt]⟩
theorem IsCyc.uniq {L : List Pt} {s : Nat} {l l' : List Nat} (h : IsCyc L s l) (h' : IsCyc L s l') : l = l' := by
  have key : ∀ {l l' : List Nat}, IsCyc L s l → IsCyc L s l' → ¬ l.length < l'.length := fun {l l'} h h' lt => by
    obtain ⟨j, lj, e⟩ := h.of_mem h.back
    have e1 : l'[l.length] = l'[j]'(by omega) := by rw [h'.at lt, h'.at (by omega : j < l'.length), e]
    have := (List.getElem_inj h'.nd).mp e1
    omega
  have e : l.length = l'.length := by
    have := key h h'
    have := key h' h
    omega
  rw [h.fst, h'.fst, e]
/-- the round closes at its beginning -/
theorem IsCyc.closes {L : List Pt} (hL : TurnL L) {s : Nat} (hs : s < L.length) {l : List Nat} (h : IsCyc L s l) : itN L l.length s = s := by
  obtain ⟨j, lj, e⟩ := h.of_mem h.back
  cases j with
  | zero => exact e
  | succ j =>
    exfalso
    obtain ⟨m, hm⟩ : ∃ m, l.length = m + 1 := ⟨l.length - 1, by omega⟩
    rw [hm] at e
    have e2 : itN L m s = itN L j s := hL.inj (hL.it_lt hs m) (hL.it_lt hs j) e
    have e3 : l[m]'(by omega) = l[j]'(by omega) := by rw [h.at (by omega : m < l.length), h.at (by omega : j < l.length), e2]
    have := (List.getElem_inj h.nd).mp e3
    omega
/-- the rounds, colour by colour -/
inductive Rnd (L : List Pt) : Nat → List (List Nat) → Prop
  | nil : Rnd L 0 []
  | old {k : Nat} {Rs : List (List Nat)} : Rnd L k Rs → k ∈ Rs.flatten → Rnd L (k + 1) Rs
  | new {k : Nat} {Rs : List (List Nat)} {l : List Nat} : Rnd L k Rs → k ∉ Rs.flatten → IsCyc L k l → Rnd L (k + 1) (Rs ++ [l])
theorem Rnd.uniq {L : List Pt} : ∀ {k : Nat} {Rs Rs' : List (List Nat)}, Rnd L k Rs → Rnd L k Rs' → Rs = Rs'
  | 0, _, _, .nil, .nil => rfl
  | k + 1, _, _, .old h m, .old h' _ => h.uniq h'
  | k + 1, _, _, .old h m, .new h' n _ => by
    rw [h.uniq h'] at m
    exact absurd m n
  | k + 1, _, _, .new h n _, .old h' m => by
    rw [h.uniq h'] at n
    exact absurd m n
  | k + 1, _, _, .new h n c, .new h' _ c' => by rw [h.uniq h', c.uniq c']
theorem Rnd.cyc {L : List Pt} : ∀ {k : Nat} {Rs : List (List Nat)}, Rnd L k Rs → ∀ l ∈ Rs, ∃ s, s < k ∧ IsCyc L s l
  | _, _, .nil, l, hl => absurd hl List.not_mem_nil
  | _, _, .old h _, l, hl => by
    obtain ⟨s, h1, h2⟩ := h.cyc l hl
    exact ⟨s, by omega, h2⟩
  | _, _, .new (k := k) h _ c, l, hl => by
    rcases List.mem_append.mp hl with hl | hl
    · obtain ⟨s, h1, h2⟩ := h.cyc l hl
      exact ⟨s, by omega, h2⟩
    · rw [List.mem_singleton.mp hl]
      exact ⟨k, Nat.lt_succ_self _, c⟩
/-- what leads to a round lies on it -/
theorem Rnd.closed {L : List Pt} (hL : TurnL L) {k : Nat} {Rs : List (List Nat)} (h : Rnd L k Rs) (hk : k ≤ L.length) {y : Nat} (hy : y < L.length) (m : paN L y ∈ Rs.flatten) : y ∈ Rs.flatten := by
  obtain ⟨l, hl, hm⟩ := List.mem_flatten.mp m
  obtain ⟨s, hs, c⟩ := h.cyc l hl
  obtain ⟨j, lj, e⟩ := c.of_mem hm
  have hsL : s < L.length := by omega
  refine List.mem_flatten.mpr ⟨l, hl, ?_⟩
  cases j with
  | zero =>
    obtain ⟨n, hn⟩ : ∃ n, l.length = n + 1 := ⟨l.length - 1, by omega⟩
    have e2 := c.closes hL hsL
    rw [hn] at e2
    have e3 : y = itN L n s := hL.inj hy (hL.it_lt hsL n) (by rw [e]; exact e2.symm)
    rw [e3]
    exact c.mem (by omega)
  | succ j =>
    have e3 : y = itN L j s := hL.inj hy (hL.it_lt hsL j) e
    rw [e3]
    exact c.mem (by omega)
/-- where the next comes upon a known one or one of the round, it is the round's -/
theorem cyc_of {L : List Pt} (hL : TurnL L) {k : Nat} {Rs : List (List Nat)} (h : Rnd L k Rs) (hk : k < L.length) {cs : List Nat} (f : cs = (List.range cs.length).map fun j => itN L j k) (ne : cs ≠ []) (nd : (Rs.flatten ++ cs).Nodup) (m : itN L cs.length k ∈ Rs.flatten ++ cs) : k ∉ Rs.flatten ∧ IsCyc L k cs := by
  have nd' := List.nodup_append.mp nd
  have at0 : ∀ j, j < cs.length → itN L j k ∈ cs := fun j lj => by
    rw [f]
    exact List.mem_map.mpr ⟨j, List.mem_range.mpr lj, rfl⟩
  have p := List.length_pos_iff.mpr ne
  have hn : k ∉ Rs.flatten := fun z => nd'.2.2 k z k (at0 0 p) rfl
  refine ⟨hn, f, ne, nd'.2.1, ?_⟩
  rcases List.mem_append.mp m with z | z
  · exfalso
    obtain ⟨n, hn⟩ : ∃ n, cs.length = n + 1 := ⟨cs.length - 1, by omega⟩
    rw [hn] at z
    have z2 := h.closed hL (Nat.le_of_lt hk) (hL.it_lt hk n) z
    exact nd'.2.2 _ z2 _ (at0 n (by omega)) rfl
  · exact z
/-- no colour lies on two rounds -/
theorem Rnd.flat {L : List Pt} (hL : TurnL L) : ∀ {k : Nat} {Rs : List (List Nat)}, Rnd L k Rs → k ≤ L.length → Rs.flatten.Nodup ∧ (∀ x ∈ Rs.flatten, x < L.length) ∧ Rs.length ≤ k
  | _, _, .nil, _ => ⟨List.nodup_nil, fun _ h => absurd h List.not_mem_nil, Nat.le_refl _⟩
  | _, _, .old h _, hk => by
    obtain ⟨a, b, c⟩ := h.flat hL (Nat.le_of_succ_le hk)
    exact ⟨a, b, Nat.le_succ_of_le c⟩
  | _, _, .new (k := k) (Rs := Rs) (l := l) h no c, hk => by
    obtain ⟨a, b, d⟩ := h.flat hL (Nat.le_of_succ_le hk)
    have apart : ∀ j, itN L j k ∉ Rs.flatten := fun j => by
      induction j with
      | zero => exact no
      | succ j ih => exact fun z => ih (h.closed hL (Nat.le_of_succ_le hk) (hL.it_lt hk j) z)
    rw [List.flatten_append, show [l].flatten = l by simp]
    refine ⟨List.nodup_append.mpr ⟨a, c.nd, fun x hx y hy e => ?_⟩, fun x hx => ?_, by rw [List.length_append]; show Rs.length + 1 ≤ k + 1; omega⟩
    · obtain ⟨j, _, rfl⟩ := c.of_mem hy
      exact apart j (by rw [← e]; exact hx)
    · rcases List.mem_append.mp hx with z | z
      · exact b x z
      · obtain ⟨j, _, rfl⟩ := c.of_mem z
        exact hL.it_lt hk j

def spRounds (K : PySem.W.Frag) : Sp := fun vs H Q _ => ∃ (tv : V) (L : List Pt), vs = [tv] ∧ Tp K H tv (tabD [tRow L]) ∧ TurnL L ∧ ∀ (v : V) (H' : Hp) (Rs : List (List Nat)), RoundsOk L Rs → Rnd L L.length Rs → Tp K H' v (.tuple (Rs.map rnD)) → Same H H' → Q v H'
section
variable {P : Program} {w : World} {K : PySem.W.Frag} {mg : Str → Option Value} {base : Heap}
local macro_rules | `(tactic| walk_at "cl") => `(tactic| first | (refine le_only ?_; omega) | (refine lt_only ?_; omega))
theorem ok_u_rounds (T : Txt K mg) (D : DefAt K mg "_rounds" s_u_rounds ["table"]) : Cal P w K mg base CX0 "_rounds" 1 ["table"] (spRounds K) := by
  refine D.cal sc_u_rounds (fun vs H Q E h => ?_) (fun f cdv A outer s H vs Q E hr h => ?_)
  · obtain ⟨tv, L, rfl, _⟩ := h
    rfl
  · obtain ⟨tv, L, rfl, ht, hL, q⟩ := h
    refine ⟨_, (pss_cons (ps_set (i := 1) sc_u_rounds.nd rfl (Or.inl rfl) (pe_lst pa_nil))
      (pss_cons (ps_set (i := 2) sc_u_rounds.nd rfl (Or.inl rfl) (pe_lst pa_nil))
      (pss_cons (ps_for PassesOwn.never rfl (pi_range1 (by rfl) T.m_range (pa_cons (pe_callB (k_len_t (K := K)) (by rfl) T.m_len (by decide +kernel) (pa_cons (pe_ix (k_ix_tup (K := K)) (pv 0) pe_int (fun _ _ => rfl)) pa_nil)) pa_nil)) (pg_name (i := 3) sc_u_rounds.nd rfl (Or.inl rfl))
      (pss_cons (ps_set (i := 4) sc_u_rounds.nd rfl (Or.inl rfl) (pe_lst pa_nil))
      (pss_cons (ps_set (i := 5) sc_u_rounds.nd rfl (Or.inl rfl) (pv 3))
      (pss_cons (ps_while PassesOwn.never (pt_cmpR (k_notInF (K := K)) (pv 5) (pv 2) (by rfl)) (pss_cons (ps_expr (pe_bm PySem.F.plainAttrs_list PySem.F.slot_list_append PySem.F.type_list_append mt_append (pv 4) (pa_cons (pv 5) pa_nil)))
      (pss_cons (ps_expr (pe_bm PySem.F.plainAttrs_list PySem.F.slot_list_append PySem.F.type_list_append mt_append (pv 2) (pa_cons (pv 5) pa_nil)))
      (pss_one (ps_set (i := 5) sc_u_rounds.nd rfl (Or.inl rfl) (pe_ix (k_ix_tup (K := K)) (pe_ix (k_ix_tup (K := K)) (pe_ix (k_ix_tup (K := K)) (pv 0) pe_int (fun _ _ => rfl)) (pv 5) (fun _ _ => rfl)) pe_int (fun _ _ => rfl)))))))
      (pss_one (ps_if (pt_truth (pv 4) (by intro _; rfl)) (pss_one (ps_expr (pe_bm PySem.F.plainAttrs_list PySem.F.slot_list_append PySem.F.type_list_append mt_append (pv 1) (pa_cons (pe_callTy (k_tuple_l (K := K)) (by rfl) T.m_tuple (by decide +kernel) (pa_cons (pv 4) pa_nil)) pa_nil)))) pss_nil))))))
      (pss_one (ps_ret (pe_callTy (k_tuple_l (K := K)) (by rfl) T.m_tuple (by decide +kernel) (pa_cons (pv 1) pa_nil))))))), ?_⟩
    obtain ⟨a, b, ws, rfl, ha, hb, lw, hws⟩ := tab1 ht
    have l6 := hL.l6
    walk_at "st"
    intro p np
    have s1 : Same H (upd H p (.lst [])) := Same.new np
    walk_at "st"
    intro kn nkn
    have s2 : Same H (upd (upd H p (.lst [])) kn (.lst [])) := Same.trans s1 (Same.new nkn)
    have nkp : p ≠ kn := ne_of_none upd_same nkn
    have nk0 : H kn = none := Same.back s1 nkn
    have hp2 : (upd (upd H p (.lst [])) kn (.lst [])) p = some (.lst []) := by rw [upd_ne nkp]; exact upd_same
    have hk2 : (upd (upd H p (.lst [])) kn (.lst [])) kn = some (.lst []) := upd_same
    have ha2 := TK.seqT (Same.tk s2) ha
    have hb2 := TK.seqT (Same.tk s2) hb
    generalize hH2 : upd (upd H p (.lst [])) kn (.lst []) = H2 at *
    walk_at "st"
    refine for_range (lo := 0) (n := ((ws.length : Nat) : Int).toNat) (fun i σ H' => Ok (∃ (y3 y4 y5 : Option V) (us : List V) (Rs : List (List Nat)) (ks : List Nat), σ = [some (.ref a), some (.ref p), some (.ref kn), y3, y4, y5] ∧
      H' p = some (.lst us) ∧ TpAll K H' us (Rs.map rnD) ∧ H' kn = some (.lst (nV ks)) ∧ ks.Nodup ∧ (∀ k ∈ ks, k < L.length) ∧ Rs.length ≤ i ∧
      (∀ R ∈ Rs, R.length ≤ 6 ∧ ∀ k ∈ R, k < L.length) ∧ (∀ k ∈ ks, ∃ R ∈ Rs, k ∈ R) ∧ (∀ k, k < i → k ∈ ks) ∧ (∀ R ∈ Rs, ∃ s, s < L.length ∧ ∀ k ∈ R, ∃ i, k = itN L i s) ∧ Same H H' ∧ ks = Rs.flatten ∧ Rnd L i Rs)) ?_ ?_ ?_
    · exact ⟨_, _, _, [], [], [], rfl, hp2, .nil, hk2, List.nodup_nil, fun _ h => absurd h List.not_mem_nil, Nat.zero_le _, fun _ h => absurd h List.not_mem_nil, fun _ h => absurd h List.not_mem_nil, fun _ h => absurd h (Nat.not_lt_zero _), fun _ h => absurd h List.not_mem_nil, s2, rfl, .nil⟩
    · rintro i σ H3 hi ⟨y3, y4, y5, us, Rs, ks, rfl, hp3, hus, hk3, nd, klt, lR, Rlt, Rall, kall, Rorb, s3, ekR, hR⟩
      have hiL : i < L.length := by omega
      walk_at "st"
      intro cl ncl
      have s4 : Same H3 (upd H3 cl (.lst [])) := Same.new ncl
      have hp4 := s4 _ _ hp3
      have hk4 := s4 _ _ hk3
      have hc4 : (upd H3 cl (.lst [])) cl = some (.lst (nV [])) := upd_same
      have hus4 := TpAll.mono (Same.tk s4) _ _ hus
      have s04 := Same.trans s3 s4
      have ncl0 : H cl = none := Same.back s3 ncl
      have ncp : p ≠ cl := ne_of_none hp3 ncl
      have nck : kn ≠ cl := ne_of_none hk3 ncl
      generalize hH4 : upd H3 cl (.lst []) = H4 at *
      walk_at "st"
      refine while_by (fun σ H' => ∃ cs : List Nat, σ = [some (.ref a), some (.ref p), some (.ref kn), some (.int (0 + (i : Int))), some (.ref cl), some (.int (itN L cs.length i : Nat))] ∧ H' p = some (.lst us) ∧ TpAll K H' us (Rs.map rnD) ∧ H' kn = some (.lst (nV (ks ++ cs))) ∧ H' cl = some (.lst (nV cs)) ∧ (ks ++ cs).Nodup ∧ (∀ k ∈ ks ++ cs, k < L.length) ∧ (∀ k ∈ cs, ∃ j, k = itN L j i) ∧ (cs ≠ [] → i ∈ cs) ∧ Same H H' ∧ TK H H' ∧ cs = (List.range cs.length).map fun j => itN L j i)
        (fun σ H' => match H' kn with | some (.lst vs) => L.length - vs.length | _ => 0) ?_ ?_ ?_
      · refine ⟨[], ?_, hp4, hus4, by rw [List.append_nil]; exact hk4, hc4, by rw [List.append_nil]; exact nd, by rw [List.append_nil]; exact klt, fun _ h => absurd h List.not_mem_nil, fun h => absurd rfl h, s04, Same.tk s04, rfl⟩
        show [some (V.ref a), some (V.ref p), some (V.ref kn), some (V.int (0 + (i : Int))), some (V.ref cl), some (V.int (0 + (i : Int)))] = _
        rw [show (0 + (i : Int)) = ((itN L ([] : List Nat).length i : Nat) : Int) from Int.zero_add _]
      · rintro σ H5 ⟨cs, rfl, hp5, hus5, hk5, hc5, nd5, lt5, orb5, ne5, s05, t05, fst5⟩
        have hSk : SqL K H5 kn (nV (ks ++ cs)) ∨ SqT K H5 kn (nV (ks ++ cs)) := .inl (SqL.of hk5)
        have hfl : (nV (ks ++ cs)).all flatV = true := flat_nats
        walk_at "st"
        refine ite2 (fun e => ?_) (fun e => ?_)
        · have e' : (!inV (.int ((itN L cs.length i : Nat) : Int)) (nV (ks ++ cs))) = true := e
          rw [inV_nat, Bool.not_eq_true', decide_eq_false_iff_not] at e'
          have ilt := hL.it_lt hiL cs.length
          have nd6 : ((ks ++ cs) ++ [itN L cs.length i]).Nodup := by
            rw [List.nodup_append]
            exact ⟨nd5, List.nodup_cons.mpr ⟨List.not_mem_nil, List.nodup_nil⟩, fun x hx y hy z => e' (by rw [← List.mem_singleton.mp hy, ← z]; exact hx)⟩
          have lt6 : ∀ k ∈ (ks ++ cs) ++ [itN L cs.length i], k < L.length := fun k hk => by
            rcases List.mem_append.mp hk with h | h
            · exact lt5 k h
            · rw [List.mem_singleton.mp h]; exact ilt
          have lcs : (ks ++ cs).length < L.length := by
            have z := nodup_few (c := L.length) nd6 lt6
            rw [List.length_append] at z
            exact z
          have lnk : (nV (ks ++ cs)).length = (ks ++ cs).length := List.length_map _
          have lnc : (nV cs).length = cs.length := List.length_map _
          have lap : (ks ++ cs).length = ks.length + cs.length := List.length_append
          have hz1 : (nV cs).length < sizeLine := small1000 (by omega)
          have hz2 : (nV (ks ++ cs)).length < sizeLine := small1000 (by omega)
          have hk6 : (upd H5 cl (.lst (nV cs ++ [V.int ((itN L cs.length i : Nat) : Int)]))) kn = some (.lst (nV (ks ++ cs))) := by rw [upd_ne nck]; exact hk5
          have t6 : TK H5 (upd H5 cl (.lst (nV cs ++ [V.int ((itN L cs.length i : Nat) : Int)]))) := TK.lst hc5
          have t7 : TK (upd H5 cl (.lst (nV cs ++ [V.int ((itN L cs.length i : Nat) : Int)]))) (upd (upd H5 cl (.lst (nV cs ++ [V.int ((itN L cs.length i : Nat) : Int)]))) kn (.lst (nV (ks ++ cs) ++ [V.int ((itN L cs.length i : Nat) : Int)]))) := TK.lst hk6
          have t57 := t6.trans t7
          have ha7 := TK.seqT (t05.trans t57) ha
          have hb7 := TK.seqT (t05.trans t57) hb
          obtain ⟨u, eu, hu⟩ := hws.get (i := itN L cs.length i) (d := entD (some (L[itN L cs.length i].1, L[itN L cs.length i].2, 0))) (by rw [List.getElem?_map, tRow_at ilt]; rfl)
          have hpn := (hL.paN_lt ilt).2
          obtain ⟨b3, rfl, hb3⟩ := (show Tp K H u (.tuple [.int L[itN L cs.length i].1, .int L[itN L cs.length i].2, .int 0]) from hu).int3
          have hb37 := TK.seqT (t05.trans t57) hb3
          have hat : atI ws ((itN L cs.length i : Nat) : Int) = some (.ref b3) := atI_nat eu
          have nkc : cl ≠ kn := nck.symm
          walk_at "st"
          refine ⟨⟨cs ++ [itN L cs.length i], ?_, by rw [upd_ne nkp, upd_ne ncp]; exact hp5, TpAll.mono t57 _ _ hus5, ?_, ?_, ?_, ?_, ?_, ?_, Same.fresh (Same.fresh s05 ncl0) nk0, t05.trans t57, ?_⟩, ?_⟩
          · rw [List.length_append, hpn]
            rfl
          · rw [upd_same, ← List.append_assoc]
            unfold nV
            simp only [List.map_append]
            rfl
          · rw [upd_ne nkc, upd_same]
            unfold nV
            rw [List.map_append]
            rfl
          · rw [← List.append_assoc]
            exact nd6
          · rw [← List.append_assoc]
            exact lt6
          · intro k hk
            rcases List.mem_append.mp hk with h | h
            · exact orb5 k h
            · exact ⟨_, List.mem_singleton.mp h⟩
          · intro _
            by_cases z : cs = []
            · subst z
              exact List.mem_append_right _ (List.mem_singleton.mpr rfl)
            · exact List.mem_append_left _ (ne5 z)
          · rw [List.length_append, show cs.length + [itN L cs.length i].length = cs.length + 1 from rfl, List.range_succ, List.map_append, ← fst5]
            rfl
          · rw [upd_same, hk5]
            show L.length - (nV (ks ++ cs) ++ [V.int ((itN L cs.length i : Nat) : Int)]).length < L.length - (nV (ks ++ cs)).length
            rw [List.length_append, lnk]
            show L.length - ((ks ++ cs).length + 1) < _
            omega
        · have e' : ¬ (!inV (.int ((itN L cs.length i : Nat) : Int)) (nV (ks ++ cs))) = true := e
          rw [inV_nat, Bool.not_eq_true', decide_eq_false_iff_not, Classical.not_not] at e'
          have hiks : i ∈ ks ++ cs := by
            by_cases z : cs = []
            · subst z
              exact e'
            · exact List.mem_append_right _ (ne5 z)
          have kall5 : ∀ k, k < i + 1 → k ∈ ks ++ cs := fun k hk => by
            rcases Nat.lt_or_ge k i with l | l
            · exact List.mem_append_left _ (kall k l)
            · rw [show k = i by omega]
              exact hiks
          have lall := nodup_few (c := L.length) nd5 lt5
          rw [List.length_append] at lall
          refine ⟨_, rfl, !(nV cs).isEmpty, .inl ⟨nV cs, SqL.of hc5, rfl⟩, ?_⟩
          by_cases z : cs = []
          · subst z
            refine ⟨_, _, _, us, Rs, ks ++ [], rfl, hp5, hus5, hk5, nd5, lt5, by omega, Rlt, ?_, kall5, Rorb, s05, by rw [List.append_nil]; exact ekR, .old hR ?_⟩
            · rw [List.append_nil]
              exact Rall
            · rw [List.append_nil] at hiks
              rw [← ekR]
              exact hiks
          · have ez : (!(nV cs).isEmpty) = true := by
              cases cs with
              | nil => exact absurd rfl z
              | cons x r => rfl
            rw [ez]
            have hSc := SqL.of (K := K) hc5
            have hz3 : us.length < sizeLine := by
              have z := TpAll.length hus5
              rw [List.length_map] at z
              exact small1000 (by omega)
            walk_at "st"
            intro l nl
            have s6 : Same H5 (upd H5 l (.tup (nV cs))) := Same.new nl
            have hp6 := s6 _ _ hp5
            have hk6 := s6 _ _ hk5
            walk_at "st"
            have t7 : TK (upd H5 l (.tup (nV cs))) (upd (upd H5 l (.tup (nV cs))) p (.lst (us ++ [.ref l]))) := TK.lst hp6
            refine ⟨_, _, _, us ++ [.ref l], Rs ++ [cs], ks ++ cs, rfl, upd_same, ?_, by rw [upd_ne nkp.symm]; exact hk6, nd5, lt5, ?_, ?_, ?_, kall5, ?_, Same.fresh (Same.trans s05 s6) np, by rw [List.flatten_append, ← ekR]; simp, ?_⟩
            · rw [List.map_append]
              exact TpAll.append (TpAll.mono ((Same.tk s6).trans t7) _ _ hus5) (.cons (.tup (t7.seqT (SqT.of upd_same)) (nat_ints_tp cs)) .nil)
            · rw [List.length_append]
              show Rs.length + 1 ≤ i + 1
              omega
            · intro R hR
              rcases List.mem_append.mp hR with h | h
              · exact Rlt R h
              · rw [List.mem_singleton.mp h]
                exact ⟨by omega, fun k hk => lt5 k (List.mem_append_right _ hk)⟩
            · intro k hk
              rcases List.mem_append.mp hk with h | h
              · obtain ⟨R, h1, h2⟩ := Rall k h
                exact ⟨R, List.mem_append_left _ h1, h2⟩
              · exact ⟨cs, List.mem_append_right _ (List.mem_singleton.mpr rfl), h⟩
            · intro R hR
              rcases List.mem_append.mp hR with h | h
              · exact Rorb R h
              · rw [List.mem_singleton.mp h]
                exact ⟨i, hiL, orb5⟩
            · have cc := cyc_of hL hR hiL fst5 z (by rw [← ekR]; exact nd5) (by rw [← ekR]; exact e')
              exact .new hR cc.1 cc.2
      · intro σ H Q Q' hq h
        obtain ⟨x, e1, y, e2, p, xs, e3, e4, e5, e6, k, e7, q⟩ := h
        exact ⟨x, e1, y, e2, p, xs, e3, e4, e5, e6, k, e7, hq _ _ q⟩
    · rintro σ H3 ⟨y3, y4, y5, us, Rs, ks, rfl, hp3, hus, hk3, nd, klt, lR, Rlt, Rall, kall, Rorb, s3, ekR, hR⟩
      walk_at "st"
      intro u nu
      have s4 : Same H3 (upd H3 u (.tup us)) := Same.new nu
      exact q _ _ Rs ⟨by omega, Rlt, fun k hk => Rall k (kall k (by omega)), Rorb⟩ (by rw [show ((ws.length : Nat) : Int).toNat = L.length by omega] at hR; exact hR) (.tup (SqT.of upd_same) (TpAll.mono (Same.tk s4) _ _ hus)) (Same.trans s3 s4)
end

/-! ### never within bounds -/
theorem itN_add {L : List Pt} (s : Nat) (j : Nat) : ∀ i, itN L (i + j) s = itN L i (itN L j s)
  | 0 => by rw [Nat.zero_add]; rfl
  | i + 1 => by
    rw [Nat.add_right_comm]
    show paN L (itN L (i + j) s) = paN L (itN L i (itN L j s))
    rw [itN_add s j i]
theorem TurnL.itInj {L : List Pt} (h : TurnL L) {x y : Nat} (hx : x < L.length) (hy : y < L.length) : ∀ i, itN L i x = itN L i y → x = y
  | 0, e => e
  | i + 1, e => h.itInj hx hy i (h.inj (h.it_lt hx i) (h.it_lt hy i) e)
theorem TurnL.back {L : List Pt} (h : TurnL L) {s : Nat} (hs : s < L.length) : ∃ p, 0 < p ∧ itN L p s = s := by
  by_cases nd : ((List.range (L.length + 1)).map fun i => itN L i s).Nodup
  · have z := nodup_few nd (c := L.length) fun k hk => by
      obtain ⟨i, _, rfl⟩ := List.mem_map.mp hk
      exact h.it_lt hs i
    rw [List.length_map, List.length_range] at z
    omega
  · have key : ¬ ∀ i j, i < j → j < L.length + 1 → itN L i s ≠ itN L j s := fun all => nd (by
      rw [List.Nodup, List.pairwise_map]
      refine List.pairwise_iff_getElem.mpr fun i j hi hj lt => ?_
      rw [List.getElem_range, List.getElem_range]
      rw [List.length_range] at hj
      exact all i j lt hj)
    have : ∃ i j, i < j ∧ itN L i s = itN L j s := Classical.byContradiction fun n => key fun i j lt _ e => n ⟨i, j, lt, e⟩
    obtain ⟨i, j, lt, e⟩ := this
    refine ⟨j - i, by omega, ?_⟩
    have e2 : itN L j s = itN L i (itN L (j - i) s) := by
      rw [← itN_add, show i + (j - i) = j by omega]
    rw [e2] at e
    exact (h.itInj hs (h.it_lt hs _) i e).symm
theorem itN_per {L : List Pt} {s p : Nat} (e : itN L p s = s) : ∀ m i, itN L (i + p * m) s = itN L i s
  | 0, i => by rw [Nat.mul_zero, Nat.add_zero]
  | m + 1, i => by
    rw [Nat.mul_succ, ← Nat.add_assoc, itN_add, e, itN_per e m i]
theorem TurnL.reach {L : List Pt} (h : TurnL L) {s i j : Nat} (hs : s < L.length) : ∃ n, itN L n (itN L j s) = itN L i s := by
  obtain ⟨p, p0, e⟩ := h.back hs
  refine ⟨i + p * j - j, ?_⟩
  have l : j ≤ p * j := Nat.le_mul_of_pos_left j p0
  rw [← itN_add, show i + p * j - j + j = i + p * j by omega, itN_per e j i]
def BothL (L : List Pt) : Prop := ∀ k, k < L.length → (∃ n, tuOf L (itN L n k) = 1) ∧ ∃ n, tuOf L (itN L n k) = 3
theorem both_of {L : List Pt} (h : TurnL L) {Rs : List (List Nat)} (ok : RoundsOk L Rs) (all : ∀ R ∈ Rs, (1 : Int) ∈ R.map (tuOf L) ∧ (3 : Int) ∈ R.map (tuOf L)) : BothL L := by
  intro k hk
  obtain ⟨R, hR, hkR⟩ := ok.all k hk
  obtain ⟨s, hs, orb⟩ := ok.orb R hR
  obtain ⟨j, rfl⟩ := orb k hkR
  have get : ∀ t : Int, t ∈ R.map (tuOf L) → ∃ n, tuOf L (itN L n (itN L j s)) = t := fun t ht => by
    obtain ⟨m, hm, rfl⟩ := List.mem_map.mp ht
    obtain ⟨i, rfl⟩ := orb m hm
    obtain ⟨n, e⟩ := h.reach (i := i) (j := j) hs
    exact ⟨n, by rw [e]⟩
  exact ⟨get 1 (all R hR).1, get 3 (all R hR).2⟩
def bothB (L : List Pt) (R : List Nat) : Bool := decide ((1 : Int) ∈ R.map (tuOf L)) && decide ((3 : Int) ∈ R.map (tuOf L))
def spNever (K : PySem.W.Frag) : Sp := fun vs H Q _ => ∃ (tv : V) (L : List Pt), vs = [tv] ∧ Tp K H tv (tabD [tRow L]) ∧ TurnL L ∧ ∀ (x : Bool) (H' : Hp) (Rs : List (List Nat)), RoundsOk L Rs → Rnd L L.length Rs → x = Rs.all (bothB L) → (x = true → BothL L) → Same H H' → Q (.bl x) H'
section
variable {P : Program} {w : World} {K : PySem.W.Frag} {mg : Str → Option Value} {base : Heap}
local macro_rules | `(tactic| walk_at "cl") => `(tactic| first | (refine le_only ?_; omega) | (refine lt_only ?_; omega))
theorem ok_never_bounded (T : Txt K mg) (D : DefAt K mg "never_bounded" s_never_bounded ["table"]) (C_check_turning : Cal P w K mg base CX0 "_check_turning" 5 ["table"] (spCheckTu K)) (C_rounds : Cal P w K mg base CX0 "_rounds" 1 ["table"] (spRounds K)) (C_turns_both_ways : Cal P w K mg base CX0 "_turns_both_ways" 1 ["table", "colours"] (spBoth K)) : Cal P w K mg base CX0 "never_bounded" 6 ["table"] (spNever K) := by
  refine D.cal sc_never_bounded (fun vs H Q E h => ?_) (fun f cdv A outer s H vs Q E hr h => ?_)
  · obtain ⟨tv, L, rfl, _⟩ := h
    rfl
  · obtain ⟨tv, L, rfl, ht, hL, q⟩ := h
    refine ⟨_, (pss_cons (ps_expr (pe_own C_check_turning hr (by first | decide | omega) (pa_cons (pv 0) pa_nil)))
      (pss_one (ps_ret (pe_callB (k_all (K := K) rfl) (by rfl) T.m_all (by decide +kernel) (pa_cons (pe_lc (own := [("colours", 1)]) (g := gName 1) rfl sc_never_bounded.nd (k_pi_tup (K := K) (pe_own C_rounds hr (by first | decide | omega) (pa_cons (pv 0) pa_nil))) (blkOk_by (by rfl)) (fun _ _ _ _ _ => (pg_name (i := 1) sc_never_bounded.nd rfl (Or.inl rfl))) (fun _ _ _ _ _ => pts_nil) (fun _ _ _ _ _ => (pe_own C_turns_both_ways hr (by first | decide | omega) (pa_cons (pv 0) (pa_cons (pv 1) pa_nil))))) pa_nil))))), ?_⟩
    walk_at "st"
    intro H1 s1
    have ht1 := Tp.mono (Same.tk s1) _ _ ht
    walk_at "st"
    intro v H2 Rs ok hRn hv s2
    have ht2 := Tp.mono (Same.tk s2) _ _ ht1
    obtain ⟨e, us, rfl, he, hus⟩ := hv.tupI
    have lus : us.length = Rs.length := by rw [TpAll.length hus, List.length_map]
    have l6 := ok.len
    walk_at "st"
    intro M nM
    let fB : List Nat → Bool := fun R => decide ((1 : Int) ∈ R.map (tuOf L)) && decide ((3 : Int) ∈ R.map (tuOf L))
    refine lc_tup (K := K) (a := e) (xs := us) (fun j H3 => Ok (Same H2 H3 ∧ H3 M = some (.lst (((Rs.take j).map fB).map V.bl)))) ⟨Same.new nM, upd_same⟩ (fun j H3 _ ⟨s3, _⟩ => TK.seqT (Same.tk s3) he) ?_ ?_
    · rintro j y H3 hy ⟨s3, hM⟩
      have hj : j < Rs.length := by
        have z := (List.getElem?_eq_some_iff.mp hy).1
        omega
      have htk := take_more (List.getElem?_eq_getElem hj)
      obtain ⟨u, eu, hu⟩ := hus.get (i := j) (d := rnD Rs[j]) (by rw [List.getElem?_map, List.getElem?_eq_getElem hj]; rfl)
      rw [hy] at eu
      cases eu
      have rl := ok.lt _ (List.getElem_mem hj)
      generalize hR : Rs[j] = R at *
      have hu3 := Tp.mono (Same.tk s3) _ _ hu
      have ht3 := Tp.mono (Same.tk s3) _ _ ht2
      have hsz : (((Rs.take j).map fB).map V.bl).length < sizeLine := by
        rw [List.length_map, List.length_map, List.length_take]
        exact small1000 (by omega)
      walk_at "st"
      refine ⟨rl.2, by omega, fun H4 s4 => ⟨_, s4 _ _ hM, hsz, Same.fresh (Same.trans s3 s4) nM, ?_⟩⟩
      rw [upd_same, htk, List.map_append, List.map_append]
      rfl
    · rintro H3 ⟨s3, hM⟩
      rw [lus, List.take_length] at hM
      have hSM := SqL.of (K := K) hM
      walk_at "st"
      refine q _ _ Rs ok hRn (by rw [List.all_map]; rfl) (fun e => both_of hL ok fun R hR => ?_) (Same.trans (Same.trans s1 s2) s3)
      rw [List.all_map, List.all_eq_true] at e
      have z : fB R = true := e R hR
      have z : (decide ((1 : Int) ∈ R.map (tuOf L)) && decide ((3 : Int) ∈ R.map (tuOf L))) = true := z
      rw [Bool.and_eq_true, decide_eq_true_eq, decide_eq_true_eq] at z
      exact z
end

/-! ### places, squares, floors: are they right? -/
abbrev FarI : Int := 1000000000000000000000000000000000000000000000000000000000000
def spPlaceOk (K : PySem.W.Frag) : Sp := fun vs H Q _ => ∃ (v : V) (p : Pt), vs = [v] ∧ Tp K H v (.tuple [.int p.1, .int p.2]) ∧ InB FarI p ∧ Q (.bl true) H
def spSquareOk (K : PySem.W.Frag) : Sp := fun vs H Q _ => ∃ (v : V) (c : Int) (s : Sq), vs = [v, .int c] ∧ Tp K H v (sqD s) ∧ InB FarI s.pt ∧ 1 ≤ s.2.2 ∧ s.2.2 < c ∧ ∀ H', Same H H' → Q (.bl true) H'
def spFloorOk (K : PySem.W.Frag) : Sp := fun vs H Q _ => ∃ (v : V) (c : Nat) (F : List Sq), vs = [v, .int c] ∧ Tp K H v (floorD F) ∧ FlOk c FarI F ∧ F.length ≤ 1000 ∧ ∀ H', Same H H' → Q .non H'
def spNumberOk : Sp := fun vs H Q _ => ∃ v lo hi : Int, vs = [.int v, .int lo, .int hi] ∧ lo ≤ v ∧ v ≤ hi ∧ Q .non H
def spWalkerOk (K : PySem.W.Frag) : Sp := fun vs H Q _ => ∃ (v : V) (n : Nat) (w : Wk), vs = [v, .int n] ∧ Tp K H v (wkD w) ∧ InB FarI (wPt w) ∧ (0 ≤ w.2.2.1 ∧ w.2.2.1 < 4) ∧ (0 ≤ w.2.2.2 ∧ w.2.2.2 < n) ∧ ∀ H', Same H H' → Q (.bl true) H'
def spCheckW (K : PySem.W.Frag) : Sp := fun vs H Q _ => ∃ (v : V) (n : Nat) (w : Wk), vs = [v, .int n] ∧ Tp K H v (wkD w) ∧ InB FarI (wPt w) ∧ (0 ≤ w.2.2.1 ∧ w.2.2.1 < 4) ∧ (0 ≤ w.2.2.2 ∧ w.2.2.2 < n) ∧ ∀ H', Same H H' → Q .non H'
theorem in_dec {a b v : Int} (h1 : a ≤ v) (h2 : v ≤ b) : (decide (a ≤ v) && decide (v ≤ b)) = true := by
  rw [decide_eq_true h1, decide_eq_true h2]
  rfl
theorem leT_false {a b c d : Int} (h : c < a ∨ (c = a ∧ d < b)) : Ob.lexAt (fun j => decide (([a, b] : List Int).getD j 0 = ([c, d] : List Int).getD j 0)) (fun j => decide (([a, b] : List Int).getD j 0 ≤ ([c, d] : List Int).getD j 0)) (decide (([a, b] : List Int).length ≤ ([c, d] : List Int).length)) 0 (min ([a, b] : List Int).length ([c, d] : List Int).length) = false := by
  show (if decide (a = c) = true then (if decide (b = d) = true then true else decide (b ≤ d)) else decide (a ≤ c)) = false
  by_cases e1 : a = c
  · rw [if_pos (decide_eq_true e1), if_neg (fun z => by have := of_decide_eq_true z; omega)]
    exact decide_eq_false (by omega)
  · rw [if_neg (fun z => e1 (of_decide_eq_true z))]
    exact decide_eq_false (by omega)
section
variable {P : Program} {w : World} {K : PySem.W.Frag} {mg : Str → Option Value} {base : Heap}
theorem ok_is_place (T : Txt K mg) (D : DefAt K mg "is_place" s_is_place ["value"]) (C_is_whole : Cal P w K mg base CX0 "is_whole" 1 ["value", "least", "greatest"] spWhole) : Cal P w K mg base CX0 "is_place" 2 ["value"] (spPlaceOk K) := by
  refine D.cal sc_is_place (fun vs H Q E h => ?_) (fun f cdv A outer s H vs Q E hr h => ?_)
  · obtain ⟨v, p, rfl, _⟩ := h
    rfl
  · obtain ⟨v, p, rfl, hv, hb, q⟩ := h
    refine ⟨_, (pss_cons (ps_if (PW.pt (pw_or (pt_not (pt_val (pe_callB (k_isN (K := K)) (by rfl) T.m_isinstance (by decide +kernel) (pa_cons (pv 0) (pa_cons (pe_ty "tuple" (by rfl) T.m_tuple (by decide +kernel)) pa_nil))))) (pw_or1 (pt_cmpR op_ne (pe_callB (k_len_t (K := K)) (by rfl) T.m_len (by decide +kernel) (pa_cons (pv 0) pa_nil)) pe_int (nomark _))))) (pss_one (ps_ret pe_bl)) pss_nil)
      (pss_one (ps_ret (pe_and (pe_own C_is_whole hr (by first | decide | omega) (pa_cons (pe_ix (k_ix_tup (K := K)) (pv 0) pe_int (fun _ _ => rfl)) (pa_cons (pe_un un_neg (pe_gint (by rfl) T.far)) (pa_cons (pe_gint (by rfl) T.far) pa_nil)))) (pe_one (pe_own C_is_whole hr (by first | decide | omega) (pa_cons (pe_ix (k_ix_tup (K := K)) (pv 0) pe_int (fun _ _ => rfl)) (pa_cons (pe_un un_neg (pe_gint (by rfl) T.far)) (pa_cons (pe_gint (by rfl) T.far) pa_nil))))))))), ?_⟩
    obtain ⟨a, rfl, hs⟩ := hv.int2
    obtain ⟨⟨b1, b2⟩, b3, b4⟩ := hb
    walk_at "st"
    rw [in_dec b1 b2]
    refine iteT ?_
    walk_at "st"
    rw [in_dec b3 b4]
    exact q
theorem ok_check_number (T : Txt K mg) (D : DefAt K mg "check_number" s_check_number ["value", "least", "greatest"]) (C_is_whole : Cal P w K mg base CX0 "is_whole" 1 ["value", "least", "greatest"] spWhole) : Cal P w K mg base CX0 "check_number" 2 ["value", "least", "greatest"] spNumberOk := by
  refine D.cal sc_check_number (fun vs H Q E h => ?_) (fun f cdv A outer s H vs Q E hr h => ?_)
  · obtain ⟨v, lo, hi, rfl, _⟩ := h
    rfl
  · obtain ⟨v, lo, hi, rfl, b1, b2, q⟩ := h
    refine ⟨_, (pss_one (ps_if (pt_not (pt_val (pe_own C_is_whole hr (by first | decide | omega) (pa_cons (pv 0) (pa_cons (pv 1) (pa_cons (pv 2) pa_nil)))))) (pss_one ps_never) pss_nil)), ?_⟩
    walk_at "st"
    rw [in_dec b1 b2]
    refine if_not ?_
    exact q
theorem ok_u_is_square (T : Txt K mg) (D : DefAt K mg "_is_square" s_u_is_square ["value", "colours"]) (C_is_whole : Cal P w K mg base CX0 "is_whole" 1 ["value", "least", "greatest"] spWhole) (C_is_place : Cal P w K mg base CX0 "is_place" 2 ["value"] (spPlaceOk K)) : Cal P w K mg base CX0 "_is_square" 3 ["value", "colours"] (spSquareOk K) := by
  refine D.cal sc_u_is_square (fun vs H Q E h => ?_) (fun f cdv A outer s H vs Q E hr h => ?_)
  · obtain ⟨v, c, s, rfl, _⟩ := h
    rfl
  · obtain ⟨v, c, s, rfl, hv, hb, c1, c2, q⟩ := h
    refine ⟨_, (pss_cons (ps_if (PW.pt (pw_or (pt_not (pt_val (pe_callB (k_isN (K := K)) (by rfl) T.m_isinstance (by decide +kernel) (pa_cons (pv 0) (pa_cons (pe_ty "tuple" (by rfl) T.m_tuple (by decide +kernel)) pa_nil))))) (pw_or1 (pt_cmpR op_ne (pe_callB (k_len_t (K := K)) (by rfl) T.m_len (by decide +kernel) (pa_cons (pv 0) pa_nil)) pe_int (nomark _))))) (pss_one (ps_ret pe_bl)) pss_nil)
      (pss_one (ps_ret (pe_and (pe_own C_is_place hr (by first | decide | omega) (pa_cons (pe_slice (k_sl_tup (K := K)) (pv 0) po_none (po_some pe_int)) pa_nil)) (pe_one (pe_own C_is_whole hr (by first | decide | omega) (pa_cons (pe_ix (k_ix_tup (K := K)) (pv 0) pe_int (fun _ _ => rfl)) (pa_cons pe_int (pa_cons (pe_op op_sub (pv 1) pe_int) pa_nil))))))))), ?_⟩
    obtain ⟨a, rfl, hs⟩ := hv.int3
    walk_at "st"
    intro p np
    have s1 : Same H (upd H p (.tup [.int s.1, .int s.2.1])) := Same.new np
    have hs1 := TK.seqT (Same.tk s1) hs
    refine ⟨.ref p, s.pt, rfl, Tp.of_ints (ks := [s.1, s.2.1]) (SqT.of upd_same), hb, ?_⟩
    refine ⟨_, rfl, iteT ?_⟩
    walk_at "st"
    rw [in_dec (by omega) (by omega)]
    exact q _ s1
theorem ok_is_walker (T : Txt K mg) (D : DefAt K mg "is_walker" s_is_walker ["value", "states"]) (C_is_whole : Cal P w K mg base CX0 "is_whole" 1 ["value", "least", "greatest"] spWhole) (C_is_place : Cal P w K mg base CX0 "is_place" 2 ["value"] (spPlaceOk K)) : Cal P w K mg base CX0 "is_walker" 3 ["value", "states"] (spWalkerOk K) := by
  refine D.cal sc_is_walker (fun vs H Q E h => ?_) (fun f cdv A outer s H vs Q E hr h => ?_)
  · obtain ⟨v, c, s, rfl, _⟩ := h
    rfl
  · obtain ⟨v, n, wk, rfl, hv, hb, ⟨c1, c2⟩, ⟨c3, c4⟩, q⟩ := h
    refine ⟨_, (pss_cons (ps_if (PW.pt (pw_or (pt_not (pt_val (pe_callB (k_isN (K := K)) (by rfl) T.m_isinstance (by decide +kernel) (pa_cons (pv 0) (pa_cons (pe_ty "tuple" (by rfl) T.m_tuple (by decide +kernel)) pa_nil))))) (pw_or1 (pt_cmpR op_ne (pe_callB (k_len_t (K := K)) (by rfl) T.m_len (by decide +kernel) (pa_cons (pv 0) pa_nil)) pe_int (nomark _))))) (pss_one (ps_ret pe_bl)) pss_nil)
      (pss_one (ps_ret (pe_and (pe_own C_is_place hr (by first | decide | omega) (pa_cons (pe_slice (k_sl_tup (K := K)) (pv 0) po_none (po_some pe_int)) pa_nil)) (pe_and (pe_own C_is_whole hr (by first | decide | omega) (pa_cons (pe_ix (k_ix_tup (K := K)) (pv 0) pe_int (fun _ _ => rfl)) (pa_cons pe_int (pa_cons pe_int pa_nil)))) (pe_one (pe_own C_is_whole hr (by first | decide | omega) (pa_cons (pe_ix (k_ix_tup (K := K)) (pv 0) pe_int (fun _ _ => rfl)) (pa_cons pe_int (pa_cons (pe_op op_sub (pv 1) pe_int) pa_nil)))))))))), ?_⟩
    obtain ⟨a, rfl, hs⟩ := hv.int4
    walk_at "st"
    intro p np
    have s1 : Same H (upd H p (.tup [.int wk.1, .int wk.2.1])) := Same.new np
    have hs1 := TK.seqT (Same.tk s1) hs
    refine ⟨.ref p, wPt wk, rfl, Tp.of_ints (ks := [wk.1, wk.2.1]) (SqT.of upd_same), hb, ?_⟩
    refine ⟨_, rfl, iteT ?_⟩
    walk_at "st"
    rw [in_dec (by omega) (by omega)]
    refine iteT ?_
    walk_at "st"
    rw [in_dec (by omega) (by omega)]
    exact q _ s1
theorem ok_check_walker (T : Txt K mg) (D : DefAt K mg "check_walker" s_check_walker ["value", "states"]) (C_is_walker : Cal P w K mg base CX0 "is_walker" 3 ["value", "states"] (spWalkerOk K)) : Cal P w K mg base CX0 "check_walker" 4 ["value", "states"] (spCheckW K) := by
  refine D.cal sc_check_walker (fun vs H Q E h => ?_) (fun f cdv A outer s H vs Q E hr h => ?_)
  · obtain ⟨v, c, s, rfl, _⟩ := h
    rfl
  · obtain ⟨v, n, wk, rfl, hv, hb, c1, c2, q⟩ := h
    refine ⟨_, (pss_one (ps_if (pt_not (pt_val (pe_own C_is_walker hr (by first | decide | omega) (pa_cons (pv 0) (pa_cons (pv 1) pa_nil))))) (pss_one ps_never) pss_nil)), ?_⟩
    walk_at "st"
    intro H1 s1
    walk_at "st"
    exact q _ s1
end

section
variable {P : Program} {w : World} {K : PySem.W.Frag} {mg : Str → Option Value} {base : Heap}
theorem SqV.get {H : Hp} {vs : List V} {F : List Sq} (h : TpAll K H vs (F.map sqD)) {i : Nat} {v : V} (e : vs[i]? = some v) : ∃ s, F[i]? = some s ∧ Tp K H v (sqD s) := by
  have hl : vs.length = F.length := by rw [TpAll.length h, List.length_map]
  have hi : i < F.length := by
    have z : i < vs.length := (List.getElem?_eq_some_iff.mp e).1
    omega
  obtain ⟨z, e2, hz⟩ := h.get (i := i) (d := sqD F[i]) (by rw [List.getElem?_map, List.getElem?_eq_getElem hi]; rfl)
  rw [e] at e2
  cases e2
  exact ⟨_, List.getElem?_eq_getElem hi, hz⟩
theorem ok_check_floor (T : Txt K mg) (D : DefAt K mg "check_floor" s_check_floor ["value", "colours"]) (C_is_square : Cal P w K mg base CX0 "_is_square" 3 ["value", "colours"] (spSquareOk K)) : Cal P w K mg base CX0 "check_floor" 4 ["value", "colours"] (spFloorOk K) := by
  refine D.cal sc_check_floor (fun vs H Q E h => ?_) (fun f cdv A outer s H vs Q E hr h => ?_)
  · obtain ⟨v, c, F, rfl, _⟩ := h
    rfl
  · obtain ⟨v, c, F, rfl, hv, hF, hl, q⟩ := h
    refine ⟨_, (pss_cons (ps_if (PW.pt (pw_or (pt_not (pt_val (pe_callB (k_isN (K := K)) (by rfl) T.m_isinstance (by decide +kernel) (pa_cons (pv 0) (pa_cons (pe_ty "tuple" (by rfl) T.m_tuple (by decide +kernel)) pa_nil))))) (pw_or1 (pt_cmpR op_gt (pe_callB (k_len_t (K := K)) (by rfl) T.m_len (by decide +kernel) (pa_cons (pv 0) pa_nil)) (pe_gint (by rfl) T.most_squares) (nomark _))))) (pss_one ps_never) pss_nil)
      (pss_one (ps_for PassesOwn.never rfl (k_enT (K := K) (by rfl) T.m_enumerate (pa_cons (pv 0) pa_nil)) (pg_tup (by rfl) (pgs_cons (pg_name (i := 2) sc_check_floor.nd rfl (Or.inl rfl)) (pgs_cons (pg_name (i := 3) sc_check_floor.nd rfl (Or.inl rfl)) pgs_nil)))
      (pss_cons (ps_if (pt_not (pt_val (pe_own C_is_square hr (by first | decide | omega) (pa_cons (pv 3) (pa_cons (pv 1) pa_nil))))) (pss_one ps_never) pss_nil)
      (pss_one (ps_if (PW.pt (pw_and (pt_cmpR op_gt (pv 2) pe_int (nomark _)) (pw_and1 (pt_cmpR (k_leT (K := K) hr.units0) (pe_slice (k_sl_tup (K := K)) (pv 3) po_none (po_some pe_int)) (pe_slice (k_sl_tup (K := K)) (pe_ix (k_ix_tup (K := K)) (pv 0) (pe_op op_sub (pv 2) pe_int) (fun _ _ => rfl)) po_none (po_some pe_int)) (nomark _))))) (pss_one ps_never) pss_nil)))))), ?_⟩
    obtain ⟨a, vs, rfl, hs, hvs⟩ := hv.tupI
    have hlen : vs.length = F.length := by rw [TpAll.length hvs, List.length_map]
    walk_at "st"
    refine ite2 (fun e => absurd (of_decide_eq_true e) (by omega)) (fun _ => ?_)
    walk_at "st"
    refine for_it (walkEn (K := K) (a := a) (xs := vs)) (fun i σ H' => Ok (∃ y1 y2, σ = [some (.ref a), some (.int c), y1, y2] ∧ Same H H')) ⟨_, _, rfl, Same.refl H⟩ (fun i σ H' _ ⟨y1, y2, _, sm⟩ => TK.seqT (Same.tk sm) hs) ?_ ?_
    · rintro i x σ H' H2 hi ⟨y1, y2, rfl, sm⟩ ⟨t, z, y, rfl, nt, rfl, e1, e2⟩
      cases e1
      obtain ⟨s, hsF, hz⟩ := SqV.get hvs e2
      have s2 : Same H (upd H' t (.tup [.int (i : Nat), y])) := Same.trans sm (Same.new nt)
      have hsq := Tp.mono (Same.tk s2) _ _ hz
      obtain ⟨b, rfl, hsb⟩ := hsq.int3
      have hs2 := TK.seqT (Same.tk s2) hs
      obtain ⟨k1, k2, k3⟩ := hF.sq s (List.mem_of_getElem? hsF)
      walk_at "st"
      intro H3 s3
      have s03 := Same.trans s2 s3
      have hs3 := TK.seqT (Same.tk s03) hs
      have hsb3 := TK.seqT (Same.tk s3) hsb
      walk_at "st"
      refine ite2 (fun e => ?_) (fun e => ?_)
      · have hi0 : 0 < i := by
          have := of_decide_eq_true e
          omega
        have l1 : i - 1 < vs.length := by omega
        have hat : atI vs ((i : Int) - 1) = some vs[i - 1] := by
          rw [show ((i : Int) - 1) = ((i - 1 : Nat) : Int) by omega]
          exact atI_nat (List.getElem?_eq_getElem l1)
        obtain ⟨s0, hs0F, hz0⟩ := SqV.get hvs (List.getElem?_eq_getElem l1)
        have hz0 := Tp.mono (Same.tk s03) _ _ hz0
        have lt : ltP s0.pt s.pt := by
          obtain ⟨l2, e3⟩ := List.getElem?_eq_some_iff.mp hs0F
          obtain ⟨l3, e4⟩ := List.getElem?_eq_some_iff.mp hsF
          have z := List.pairwise_iff_getElem.mp hF.asc (i - 1) i l2 l3 (by omega)
          rw [e3, e4] at z
          exact z
        obtain ⟨b0, e5, hs0⟩ := hz0.int3
        rw [e5] at hat
        walk_at "st"
        intro p np
        have s4 : Same H3 (upd H3 p (.tup [.int s.1, .int s.2.1])) := Same.new np
        have hs4 := TK.seqT (Same.tk s4) hs3
        have hs04 := TK.seqT (Same.tk s4) hs0
        have hp : (upd H3 p (.tup [.int s.1, .int s.2.1])) p = some (.tup (([s.1, s.2.1] : List Int).map V.int)) := upd_same
        walk_at "st"
        intro p2 np2
        have s5 : Same (upd H3 p (.tup [.int s.1, .int s.2.1])) (upd (upd H3 p (.tup [.int s.1, .int s.2.1])) p2 (.tup [.int s0.1, .int s0.2.1])) := Same.new np2
        refine ⟨p, p2, [s.1, s.2.1], [s0.1, s0.2.1], rfl, rfl, SqT.of (s5 _ _ hp), SqT.of upd_same, ?_⟩
        rw [leT_false (a := s.1) (b := s.2.1) (c := s0.1) (d := s0.2.1) lt]
        walk_at "st"
        exact ⟨_, _, rfl, Same.trans s03 (Same.trans s4 s5)⟩
      · walk_at "st"
        exact ⟨_, _, rfl, s03⟩
    · rintro σ H' ⟨y1, y2, rfl, sm⟩
      exact q H' sm
end

/-! ### floors and cells -/
def spPlaces (K : PySem.W.Frag) : Sp := fun vs H Q _ => ∃ (v : V) (F : List Sq), vs = [v] ∧ Tp K H v (floorD F) ∧ (F.Pairwise fun a b => ltP a.pt b.pt) ∧ F.length ≤ 1000 ∧ ∀ D H', H D = none → H' D = some (.dT (cellK (cellsOf F))) → Same H H' → Q (.ref D) H'
def spFloorOf (K : PySem.W.Frag) : Sp := fun vs H Q _ => ∃ (D : Addr) (m : CM), vs = [.ref D] ∧ H D = some (.dT (cellK m)) ∧ (m.map (·.1)).Nodup ∧ (∀ e ∈ m, e.2 ≠ 0) ∧ m.length ≤ 3000 ∧
  ∀ v H' F, FloorOf (col m) F → F.length = m.length → Tp K H' v (floorD F) → Same H H' → Q v H'
/-- painted so -/
def paintM (m : CM) (p : Pt) (c : Int) : CM := if c = 0 then dropM m p else putM m p c
theorem paint_nd {m : CM} (p : Pt) (c : Int) (h : (m.map (·.1)).Nodup) : ((paintM m p c).map (·.1)).Nodup := by
  unfold paintM
  split
  · exact nd_drop p h
  · exact nd_put p c h
theorem paint_len (m : CM) (p : Pt) (c : Int) : (paintM m p c).length ≤ m.length + 1 := by
  unfold paintM
  have := len_put m p c
  have := len_drop m p
  split <;> omega
theorem put_mem : ∀ {m : CM} {p : Pt} {c : Int} {e : Pt × Int}, e ∈ putM m p c → e ∈ m ∨ e.2 = c
  | [], p, c, e, h => .inr (by rw [List.mem_singleton.mp h])
  | a :: r, p, c, e, h => by
    unfold putM at h
    by_cases q : a.1 = p
    · rw [if_pos q] at h
      rcases List.mem_cons.mp h with z | z
      · exact .inr (by rw [z])
      · exact .inl (List.mem_cons_of_mem _ z)
    · rw [if_neg q] at h
      rcases List.mem_cons.mp h with z | z
      · exact .inl (z ▸ List.mem_cons_self)
      · exact (put_mem z).imp (List.mem_cons_of_mem _) id
theorem drop_mem : ∀ {m : CM} {p : Pt} {e : Pt × Int}, e ∈ dropM m p → e ∈ m
  | a :: r, p, e, h => by
    unfold dropM at h
    by_cases q : a.1 = p
    · rw [if_pos q] at h
      exact List.mem_cons_of_mem _ h
    · rw [if_neg q] at h
      rcases List.mem_cons.mp h with z | z
      · exact z ▸ List.mem_cons_self
      · exact List.mem_cons_of_mem _ (drop_mem z)
theorem paint_nz {m : CM} {p : Pt} {c : Int} (h : ∀ e ∈ m, e.2 ≠ 0) : ∀ e ∈ paintM m p c, e.2 ≠ 0 := by
  intro e he
  unfold paintM at he
  by_cases z : c = 0
  · rw [if_pos z] at he
    exact h e (drop_mem he)
  · rw [if_neg z] at he
    rcases put_mem he with q | q
    · exact h e q
    · rw [q]
      exact z
theorem paint_col {m : CM} (p : Pt) (c : Int) (h : (m.map (·.1)).Nodup) : col (paintM m p c) = dab (col m) p c := by
  funext q
  unfold paintM col dab
  by_cases z : c = 0
  · rw [if_pos z, look_drop p q h]
    split
    · exact z.symm
    · rfl
  · rw [if_neg z, look_put]
    split <;> rfl
def spPaint : Sp := fun vs H Q _ => ∃ (D b : Addr) (m : CM) (x y c : Int), vs = [.ref D, .ref b, .int c] ∧ H D = some (.dT (cellK m)) ∧ H b = some (.tup [.int x, .int y]) ∧ (m.map (·.1)).Nodup ∧ m.length ≤ 3000 ∧
  ∀ H', H' D = some (.dT (cellK (paintM m (x, y) c))) → KeepE [D] H H' → Q .non H'
/-- the cells, sorted, are the floor -/
theorem sorted_floor {m : CM} {bs : List (Addr × List Int)} (nd : (m.map (·.1)).Nodup) (nz : ∀ e ∈ m, e.2 ≠ 0) (pm : (bs.map (·.2)).Perm (m.map fun e => [e.1.1, e.1.2, e.2])) (pw : bs.Pairwise fun x y => ltZ y.2 x.2 = false) :
    ∃ F : List Sq, bs.map (·.2) = F.map (fun s => [s.1, s.2.1, s.2.2]) ∧ FloorOf (col m) F ∧ F.length = m.length := by
  have pm2 : (bs.map (·.2)).Perm ((m.map fun e => ((e.1.1, e.1.2, e.2) : Sq)).map fun s => [s.1, s.2.1, s.2.2]) := by
    rw [List.map_map]
    exact pm
  obtain ⟨F, pF, eF⟩ := perm_lift (fun s : Sq => [s.1, s.2.1, s.2.2]) pm2 _ rfl
  have pwF : F.Pairwise fun a b => ltZ [b.1, b.2.1, b.2.2] [a.1, a.2.1, a.2.2] = false := by
    have z : (bs.map (·.2)).Pairwise fun x y => ltZ y x = false := List.pairwise_map.mpr pw
    rw [← eF] at z
    exact List.pairwise_map.mp z
  have ndF : F.Pairwise fun a b => a.pt ≠ b.pt := by
    have z : ((m.map fun e => ((e.1.1, e.1.2, e.2) : Sq)).map Sq.pt).Nodup := by
      rw [List.map_map]
      exact nd
    have y : (F.map Sq.pt).Nodup := (pF.map Sq.pt).nodup_iff.mpr z
    exact List.pairwise_map.mp y
  have asc : F.Pairwise fun a b => ltP a.pt b.pt := by
    refine List.Pairwise.imp₂ (fun a b h1 h2 => ?_) pwF ndF
    have h3 : ¬ (b.1 < a.1 ∨ (¬ a.1 < b.1 ∧ b.2.1 < a.2.1)) := fun z => by
      have e : ltZ [b.1, b.2.1, b.2.2] [a.1, a.2.1, a.2.2] = true := by
        show (decide (b.1 < a.1) || (!decide (a.1 < b.1) && (decide (b.2.1 < a.2.1) || (!decide (a.2.1 < b.2.1) && ltZ [b.2.2] [a.2.2])))) = true
        rcases z with z | ⟨z1, z2⟩
        · rw [decide_eq_true z]
          rfl
        · rw [decide_eq_false z1, decide_eq_true z2, Bool.or_eq_true]
          exact .inr rfl
      rw [e] at h1
      cases h1
    have h4 : ¬ (a.1 = b.1 ∧ a.2.1 = b.2.1) := fun z => h2 (Prod.ext z.1 z.2)
    show a.1 < b.1 ∨ (a.1 = b.1 ∧ a.2.1 < b.2.1)
    omega
  refine ⟨F, eF.symm, ⟨asc, fun s => ?_⟩, by rw [pF.length_eq, List.length_map]⟩
  rw [pF.mem_iff, List.mem_map]
  constructor
  · rintro ⟨e, he, rfl⟩
    have q := mem_look nd (show (e.1, e.2) ∈ m from he)
    refine ⟨?_, nz e he⟩
    show e.2 = (look m (e.1.1, e.1.2)).getD 0
    rw [show ((e.1.1, e.1.2) : Pt) = e.1 from rfl, q]
    rfl
  · rintro ⟨h1, h2⟩
    cases q : look m s.pt with
    | none =>
      unfold col at h1
      rw [q] at h1
      exact absurd h1 h2
    | some c =>
      unfold col at h1
      rw [q] at h1
      refine ⟨(s.pt, c), look_mem q, ?_⟩
      obtain ⟨x, y, k⟩ := s
      show (x, y, c) = (x, y, k)
      rw [show k = c from h1]

theorem dcT_it {J : It} {n : Nat} {G : Hp → Prop} {Y : Nat → Hp → V → Hp → Prop} (w : Walk J n G Y) {g : TG} {tk tv : TE} {vs : List Nat} {σ : L2.St} {H1 : Hp} {D : Addr} {Qd : Hp → Prop} (Pv : Nat → Hp → Prop) (h0 : Pv 0 (upd H1 D (.dT []))) (hG : ∀ i H, i ≤ n → Pv i H → G H)
    (hs : ∀ i x H H', i < n → Pv i H → Y i H x H' → g x (wipe σ vs) H' fun σ2 H2 => wipe σ2 vs = wipe σ vs ∧ tk σ2 H2 fun y H3 => tv σ2 H3 fun c H4 => ∃ kvs k b, y = .ref b ∧ H4 b = some (.tup (k.map kV)) ∧ H4 D = some (.dT kvs) ∧ kvs.length < sizeLine ∧ Pv (i + 1) (upd H4 D (.dT (putK kvs k c)))) (hd : ∀ H, Pv n H → Qd H) :
    ∃ W : Nat → Nat → Hp → Prop, (∃ m, W 0 m (upd H1 D (.dT []))) ∧ ∀ i m H, W i m H →
      (J.stop i H ∧ Qd H) ∨ (J.go i H ∧ ∃ Nx : Hp → Prop, (∀ H', Nx H' → ∃ m', m' < m ∧ W (i + 1) m' H') ∧ ∀ x H', J.yld i H x H' → g x (wipe σ vs) H' fun σ2 H2 => wipe σ2 vs = wipe σ vs ∧
        tk σ2 H2 fun y H3 => tv σ2 H3 fun c H4 => ∃ kvs k b, y = .ref b ∧ H4 b = some (.tup (k.map kV)) ∧ H4 D = some (.dT kvs) ∧ kvs.length < sizeLine ∧ Nx (upd H4 D (.dT (putK kvs k c)))) := by
  refine ⟨fun i m H => m = n - i ∧ i ≤ n ∧ Pv i H, ⟨n, rfl, Nat.zero_le _, h0⟩, fun i m H wi => ?_⟩
  obtain ⟨rfl, hi, p⟩ := wi
  have q := hG i H hi p
  rcases Nat.lt_or_ge i n with lt | ge
  · exact .inr ⟨w.goes i H lt q, Pv (i + 1), fun H' p' => ⟨n - (i + 1), by omega, rfl, lt, p'⟩, fun x H' y => hs i x H H' lt p (w.yields i H x H' lt q y)⟩
  · obtain rfl : i = n := Nat.le_antisymm hi ge
    exact .inl ⟨w.stops H q, hd H p⟩
theorem put_fresh {m : CM} {p : Pt} (c : Int) (h : p ∉ m.map (·.1)) : putM m p c = m ++ [(p, c)] := by
  induction m with
  | nil => rfl
  | cons e r ih =>
    unfold putM
    rw [if_neg (fun z => h (by rw [List.map_cons, z]; exact List.mem_cons_self)), ih fun z => h (List.mem_cons_of_mem _ z)]
    rfl
theorem cellK_snoc {m : CM} {p : Pt} {c : Int} (nd : (m.map (·.1)).Nodup) (h : p ∉ m.map (·.1)) : putK (cellK m) (ptK p) (.int c) = cellK (m ++ [(p, c)]) := by
  rw [cell_put p c nd, put_fresh c h]
theorem sqs_tp {K : PySem.W.Frag} {H : Hp} : ∀ {bs : List (Addr × List Int)} {F : List Sq}, (∀ b ∈ bs, SqT K H b.1 (b.2.map V.int)) → bs.map (·.2) = F.map (fun s => [s.1, s.2.1, s.2.2]) → TpAll K H (bs.map fun b => .ref b.1) (F.map sqD)
  | [], [], _, _ => .nil
  | [], _ :: _, _, e => nomatch e
  | _ :: _, [], _, e => nomatch e
  | b :: bs, s :: F, h, e => by
    obtain ⟨e1, e2⟩ := List.cons.inj e
    have h1 := h b List.mem_cons_self
    rw [show b.2 = [s.1, s.2.1, s.2.2] from e1] at h1
    exact .cons (Tp.of_ints (ks := [s.1, s.2.1, s.2.2]) h1) (sqs_tp (fun y hy => h y (List.mem_cons_of_mem _ hy)) e2)
theorem ty_dT {K : PySem.W.Frag} {H : Hp} {a : Addr} {kvs : List (List Key × V)} (h : H a = some (.dT kvs)) : tyV K "dict" (.ref a) H := by
  unfold tyV
  simp [h]
section
variable {P : Program} {w : World} {K : PySem.W.Frag} {mg : Str → Option Value} {base : Heap}
theorem ok_painted_places (T : Txt K mg) (D : DefAt K mg "painted_places" s_painted_places ["floor"]) : Cal P w K mg base CX0 "painted_places" 1 ["floor"] (spPlaces K) := by
  refine D.cal sc_painted_places (fun vs H Q E h => ?_) (fun f cdv A outer s H vs Q E hr h => ?_)
  · obtain ⟨v, F, rfl, _⟩ := h
    rfl
  · obtain ⟨v, F, rfl, hv, asc, hl, q⟩ := h
    refine ⟨_, (pss_one (ps_ret (pe_dcT (own := [("x", 1), ("y", 2), ("colour", 3)]) (g := gTup K 3 (gCons (gName 1) (gCons (gName 2) (gCons (gName 3) gNil)))) rfl hr.units0 sc_painted_places.nd (k_pi_tup (K := K) (pv 0)) (blkOk_by (by rfl)) (fun _ _ _ _ _ => (k_pgT (K := K) 3 (by rfl) (pgs_cons (pg_name (i := 1) sc_painted_places.nd rfl (Or.inl rfl)) (pgs_cons (pg_name (i := 2) sc_painted_places.nd rfl (Or.inl rfl)) (pgs_cons (pg_name (i := 3) sc_painted_places.nd rfl (Or.inl rfl)) pgs_nil))))) (fun _ _ _ _ _ => (pe_tup (pa_cons (pv 1) (pa_cons (pv 2) pa_nil)))) (fun _ _ _ _ _ => (pv 3))))), ?_⟩
    obtain ⟨a, vs, rfl, hs, hvs⟩ := hv.tupI
    have hlen : vs.length = F.length := by rw [TpAll.length hvs, List.length_map]
    walk_at "st"
    intro D nD
    refine dcT_it (walk_tup (K := K) (a := a) (xs := vs)) (fun i H' => Ok (Same H H' ∧ H' D = some (.dT (cellK (cellsOf (F.take i)))))) ⟨Same.new nD, upd_same⟩ (fun i H' _ ⟨sm, _⟩ => TK.seqT (Same.tk sm) hs) ?_ ?_
    · rintro i x H' H2 hi ⟨sm, hD⟩ ⟨rfl, hx⟩
      obtain ⟨s, hsF, hz⟩ := SqV.get hvs hx
      have hz := Tp.mono (Same.tk sm) _ _ hz
      obtain ⟨b, rfl, hsb⟩ := hz.int3
      walk_at "st"
      intro p np
      have hD2 : (upd H2 p (.tup [.int s.1, .int s.2.1])) D = some (.dT (cellK (cellsOf (F.take i)))) := by rw [upd_ne (ne_of_none hD np)]; exact hD
      have nd : ((cellsOf (F.take i)).map (·.1)).Nodup := asc_nd (asc.sublist (List.take_sublist _ _))
      have nin : s.pt ∉ (cellsOf (F.take i)).map (·.1) := fun z => by
        have nd2 : ((cellsOf (F.take (i + 1))).map (·.1)).Nodup := asc_nd (asc.sublist (List.take_sublist _ _))
        rw [take_more hsF] at nd2
        unfold cellsOf at nd2 z
        rw [List.map_append, List.map_append, List.nodup_append] at nd2
        exact nd2.2.2 _ z s.pt List.mem_cons_self rfl
      have hsz : (cellK (cellsOf (F.take i))).length < sizeLine := by
        rw [cell_len]
        unfold cellsOf
        rw [List.length_map, List.length_take]
        exact small1000 (by omega)
      refine ⟨_, rfl, _, ptK s.pt, p, rfl, upd_same, hD2, hsz, Same.fresh (Same.trans sm (Same.new np)) nD, ?_⟩
      rw [upd_same, cellK_snoc nd nin, take_more hsF]
      unfold cellsOf
      rw [List.map_append]
      rfl
    · rintro H' ⟨sm, hD⟩
      rw [hlen, List.take_length] at hD
      exact q D H' nD hD sm
theorem ok_floor_of (T : Txt K mg) (D : DefAt K mg "floor_of" s_floor_of ["painted"]) : Cal P w K mg base CX0 "floor_of" 1 ["painted"] (spFloorOf K) := by
  refine D.cal sc_floor_of (fun vs H Q E h => ?_) (fun f cdv A outer s H vs Q E hr h => ?_)
  · obtain ⟨D, m, rfl, _⟩ := h
    rfl
  · obtain ⟨D, m, rfl, hD, nd, nz, hl, q⟩ := h
    refine ⟨_, (pss_one (ps_ret (pe_callTy (k_tuple_l (K := K)) (by rfl) T.m_tuple (by decide +kernel) (pa_cons (pe_callB (k_sortT (K := K)) (by rfl) T.m_sorted (by decide +kernel) (pa_cons (pe_lock (pe_lc (own := [("x", 1), ("y", 2)]) (g := gTup K 2 (gCons (gName 1) (gCons (gName 2) gNil))) rfl sc_floor_of.nd (pi_keys (pv 0)) (blkOk_by (by rfl)) (fun _ _ _ _ _ => (k_pgT (K := K) 2 (by rfl) (pgs_cons (pg_name (i := 1) sc_floor_of.nd rfl (Or.inl rfl)) (pgs_cons (pg_name (i := 2) sc_floor_of.nd rfl (Or.inl rfl)) pgs_nil)))) (fun _ _ _ _ _ => pts_nil) (fun _ _ _ _ _ => (pe_tup (pa_cons (pv 1) (pa_cons (pv 2) (pa_cons (pe_dget (hu_of hr) (pv 0) (pe_tup (pa_cons (pv 1) (pa_cons (pv 2) pa_nil))) (fun _ _ => rfl)) pa_nil))))))) pa_nil)) pa_nil)))), ?_⟩
    walk_at "st"
    intro od
    have fD : (upd H D (.frz od (.dT (cellK m)))) D = some (.frz od (.dT (cellK m))) := upd_same
    generalize hHf : upd H D (.frz od (.dT (cellK m))) = Hf at fD
    refine ⟨_, rfl, D, od, rfl, .inr ⟨cellK m, fD, ?_⟩⟩
    intro L nL
    have nLD : L ≠ D := fun z => by
      rw [z, fD] at nL
      cases nL
    refine lc_it (walk_keysT (d := D) (o := od) (kvs := cellK m)) (fun i H' => Ok (Same Hf H' ∧ ∃ bs : List (Addr × List Int), H' L = some (.lst (bs.map fun b => .ref b.1)) ∧ bs.map (·.2) = (m.take i).map (fun e => [e.1.1, e.1.2, e.2]) ∧ ∀ b ∈ bs, H' b.1 = some (.tup (b.2.map V.int))))
      ⟨Same.new nL, [], upd_same, rfl, fun b hb => nomatch hb⟩ (fun i H' _ ⟨sm, _⟩ => sm _ _ fD) ?_ ?_
    · rintro i x H' H2 hi ⟨sm, bs, hL, eb, tb⟩ ⟨rfl, k, v, qa, hk, rfl, hq⟩
      have hi : i < m.length := by rw [cell_len] at hi; exact hi
      have e0 : (cellK m)[i]? = some (ptK m[i].1, V.int m[i].2) := by
        unfold cellK
        rw [List.getElem?_map, List.getElem?_eq_getElem hi]
        rfl
      rw [e0] at hk
      obtain ⟨rfl, rfl⟩ := Prod.mk.inj (Option.some.inj hk)
      have hq : H2 qa = some (.tup [.int m[i].1.1, .int m[i].1.2]) := hq
      have hD2 := sm _ _ fD
      have lk : look m m[i].1 = some m[i].2 := mem_look nd (List.getElem_mem hi)
      have hlen : bs.length = i := by
        have z := congrArg List.length eb
        rw [List.length_map, List.length_map, List.length_take] at z
        omega
      have tk1 := take_more (List.getElem?_eq_getElem hi)
      generalize he : m[i] = e at *
      walk_at "st"
      intro p np
      have s1 : Same H2 (upd H2 p (.tup [.int e.1.1, .int e.1.2])) := Same.new np
      have hg : DGet (upd H2 p (.tup [.int e.1.1, .int e.1.2])) D (.ref p) (some (.int e.2)) := .inr ⟨cellK m, ptK e.1, p, .inr ⟨od, s1 _ _ hD2⟩, rfl, upd_same, by rw [cell_val, lk]; rfl⟩
      walk_at "st"
      intro p2 np2
      have s2 : Same (upd H2 p (.tup [.int e.1.1, .int e.1.2])) (upd (upd H2 p (.tup [.int e.1.1, .int e.1.2])) p2 (.tup [.int e.1.1, .int e.1.2, .int e.2])) := Same.new np2
      have s3 := Same.trans s1 s2
      have hL3 := s3 _ _ hL
      have hsz : (bs.map fun b => V.ref b.1).length < sizeLine := by
        rw [List.length_map]
        exact Nat.lt_of_lt_of_le (show bs.length < 3001 by omega) (by decide)
      have nLp : ∀ b o, H2 b = some o → b ≠ L → (upd (upd (upd H2 p (.tup [.int e.1.1, .int e.1.2])) p2 (.tup [.int e.1.1, .int e.1.2, .int e.2])) L (.lst ((bs.map fun b => V.ref b.1) ++ [.ref p2]))) b = some o := fun b o hb n => by
        rw [upd_ne n]
        exact s3 _ _ hb
      have np2L : p2 ≠ L := (ne_of_none (s1 _ _ hL) np2).symm
      refine ⟨_, hL3, hsz, Same.fresh (Same.trans sm s3) nL, bs ++ [(p2, [e.1.1, e.1.2, e.2])], ?_, ?_, fun b hb => ?_⟩
      · rw [upd_same, List.map_append]
        rfl
      · rw [tk1, List.map_append, List.map_append, eb]
        rfl
      · rcases List.mem_append.mp hb with h | h
        · exact nLp _ _ (tb b h) (ne_of (tb b h) hL (by intro z; cases z))
        · rw [List.mem_singleton.mp h, upd_ne np2L]
          exact upd_same
    · rintro H' ⟨sm, bs, hL, eb, tb⟩
      rw [cell_len, List.take_length] at eb
      have hD2 := sm _ _ fD
      refine ⟨hD2, ?_⟩
      have neD : ∀ b o, H' b = some o → (∀ od u, o ≠ .frz od u) → b ≠ D := fun b o hb n z => by
        rw [z, hD2] at hb
        cases hb
        exact n _ _ rfl
      have sB : Same H (upd H' D (.dT (cellK m))) := fun b o hb => by
        by_cases z : b = D
        · rw [z, hD] at hb
          rw [z, upd_same, hb]
        · rw [upd_ne z]
          refine sm _ _ ?_
          rw [← hHf, upd_ne z]
          exact hb
      have hL2 : (upd H' D (.dT (cellK m))) L = some (.lst (bs.map fun b => .ref b.1)) := by rw [upd_ne nLD]; exact hL
      have tb2 : ∀ b ∈ bs, SqT K (upd H' D (.dT (cellK m))) b.1 (b.2.map V.int) ∧ b.2 ≠ [] := fun b hb => by
        refine ⟨?_, fun z => ?_⟩
        · exact SqT.of (by
            rw [upd_ne (neD _ _ (tb b hb) (by intro _ _ z; cases z))]
            exact tb b hb)
        · have mm : b.2 ∈ bs.map (·.2) := List.mem_map.mpr ⟨b, hb, rfl⟩
          rw [eb, z] at mm
          obtain ⟨y, _, ey⟩ := List.mem_map.mp mm
          cases ey
      refine ⟨L, bs, rfl, SqL.of hL2, tb2, fun p bs2 np pm pw => ?_⟩
      have pm2 : (bs2.map (·.2)).Perm (m.map fun e => [e.1.1, e.1.2, e.2]) := by
        rw [← eb]
        exact pm.map _
      obtain ⟨F, eF, fo, lF⟩ := sorted_floor nd nz pm2 pw
      refine ⟨p, _, rfl, SqL.of upd_same, fun l nl => ?_⟩
      have sP : Same (upd H' D (.dT (cellK m))) (upd (upd (upd H' D (.dT (cellK m))) p (.lst (bs2.map fun b => .ref b.1))) l (.tup (bs2.map fun b => .ref b.1))) := Same.trans (Same.new np) (Same.new nl)
      refine q _ _ F fo lF (.tup (SqT.of upd_same) ?_) (Same.trans sB sP)
      exact sqs_tp (fun b hb => TK.seqT (Same.tk sP) (tb2 b (pm.mem_iff.mp hb)).1) eF
theorem ok_paint_square (T : Txt K mg) (D : DefAt K mg "paint_square" s_paint_square ["painted", "place", "colour"]) : Cal P w K mg base CX0 "paint_square" 1 ["painted", "place", "colour"] spPaint := by
  refine D.cal sc_paint_square (fun vs H Q E h => ?_) (fun f cdv A outer s H vs Q E hr h => ?_)
  · obtain ⟨D, b, m, x, y, c, rfl, _⟩ := h
    rfl
  · obtain ⟨D, b, m, x, y, c, rfl, hD, hb, nd, hl, q⟩ := h
    refine ⟨_, (pss_one (ps_if (pt_cmpR op_eq (pv 2) pe_int (nomark _)) (pss_one (ps_expr (pe_bm PySem.F.plainAttrs_dict PySem.F.slot_dict_pop PySem.F.type_dict_pop (DX.mt_popT (hu_of hr)) (pv 0) (pa_cons (pv 1) (pa_cons pe_non pa_nil))))) (pss_one (ps_if (PW.pt (pw_or (pt_cmp (pc_din (hu_of hr) (pv 1) (pv 0))) (pw_or1 (pt_cmpR op_lt (pe_callB call_len_dT (by rfl) T.m_len (by decide +kernel) (pa_cons (pv 0) pa_nil)) (pe_gint (by rfl) T.most_squares) (nomark _))))) (pss_one (ps_dput (hu_of hr) (pv 0) (pv 1) (pv 2) (by rfl))) (pss_one ps_never))))), ?_⟩
    have hbk : H b = some (.tup ((ptK (x, y)).map kV)) := hb
    have nbD : b ≠ D := ne_of hb hD (by intro z; cases z)
    have hsz : (cellK m).length < sizeLine := by
      rw [cell_len]
      exact Nat.lt_of_le_of_lt hl (by decide)
    have hg : DGet H D (.ref b) (valV (cellK m) (ptK (x, y))) := DGet.t hD hbk
    have hw : DPut H D (.ref b) (.int c) (upd H D (.dT (putK (cellK m) (ptK (x, y)) (.int c)))) := DPut.t hD hbk hsz
    walk_at "st"
    refine ite2 (fun e => ?_) (fun e => ?_)
    · have e := eq_tr e
      subst e
      have fin : ∀ H', H' D = some (.dT (cellK (dropM m (x, y)))) → KeepE [D] H H' → Q .non H' := q
      walk_at "st"
      refine ⟨ty_dT hD, _, rfl, ?_⟩
      walk_at "st"
      refine ⟨fun v hv => ?_, fun hv => ?_⟩
      · refine fin _ ?_ (KeepE.put List.mem_cons_self)
        rw [upd_same, cell_drop (x, y) m nd]
      · refine fin _ ?_ (KeepE.refl _ _)
        have e2 : dropK (cellK m) (ptK (x, y)) = cellK m := dropK_no (valV_not hv)
        rw [← cell_drop (x, y) m nd, e2]
        exact hD
    · have e := eq_fl e
      have fin : Q .non (upd H D (.dT (putK (cellK m) (ptK (x, y)) (.int c)))) := by
        refine q _ ?_ (KeepE.put List.mem_cons_self)
        rw [upd_same, cell_put (x, y) c nd]
        unfold paintM
        rw [if_neg e]
      walk_at "st"
      refine ite2 (fun e1 => ?_) (fun e1 => ?_)
      · walk_at "st"
        exact fin
      · walk_at "st"
        refine ite2 (fun e2 => ?_) (fun e2 => absurd (decide_eq_true (by rw [cell_len]; omega)) e2)
        walk_at "st"
        exact fin
end

/-! ### the stroll -/
/-- the fields of a stroll, as __init__ stores them -/
abbrev strF (tv gv : V) (D : Addr) (wv : V) : List (Str × V) := [("table", tv), ("ground", gv), ("painted", .ref D), ("walker", wv)]
/-- the ground of a walk on blank squares -/
def blankD : PyData := .tuple [.tuple [.int 0]]
structure StrAt (K : PySem.W.Frag) (C : Addr) (H : Hp) (a D : Addr) (T : List (List Ent)) (m : CM) (w : Wk) : Prop where
  ob : ∃ dx tv gv wv, H a = some (.ins C dx (strF tv gv D wv)) ∧ Tp K H tv (tabD T) ∧ Tp K H wv (wkD w) ∧ Tp K H gv blankD
  dc : H D = some (.dT (cellK m))
  nd : (m.map (·.1)).Nodup
  nz : ∀ e ∈ m, e.2 ≠ 0
/-- what the text says of the class -/
structure ClsS (K : PySem.W.Frag) (mg : Str → Option Value) (C : Addr) : Prop where
  cl : Cls K C
  nT : NoAttr K C "table"
  nG : NoAttr K C "ground"
  nP : NoAttr K C "painted"
  nW : NoAttr K C "walker"
  mgC : mg "Stroll" = some (.ref C)
def spBehind (K : PySem.W.Frag) : Sp := fun vs H Q _ => ∃ (wv ev : V) (w : Wk) (e : Int × Int × Int), vs = [wv, ev] ∧ Tp K H wv (wkD w) ∧ Tp K H ev (entD (some e)) ∧ ∀ v H', Tp K H' v (wkD (behind w e)) → Same H H' → Q v H'
def spInit (K : PySem.W.Frag) (C : Addr) : Sp := fun vs H Q _ => ∃ (a dx : Addr) (tv fv wv gv : V) (T : List (List Ent)) (F : List Sq) (w : Wk), vs = [.ref a, tv, fv, wv, gv] ∧ H a = some (.ins C dx []) ∧ Tp K H gv blankD ∧ Tp K H tv (tabD T) ∧ Tp K H fv (floorD F) ∧ Tp K H wv (wkD w) ∧
  (F.Pairwise fun a b => ltP a.pt b.pt) ∧ (∀ s ∈ F, s.2.2 ≠ 0) ∧ F.length ≤ 1000 ∧ ∀ D H', H D = none → StrAt K C H' a D T (cellsOf F) w → KeepE [a] H H' → Q .non H'
/-- __init__ with the default ground behind -/
def spInit3 (K : PySem.W.Frag) (C : Addr) : Sp := fun vs H Q _ => ∃ (a dx : Addr) (tv fv wv : V) (T : List (List Ent)) (F : List Sq) (w : Wk), vs = [.ref a, tv, fv, wv] ∧ H a = some (.ins C dx []) ∧ Tp K H tv (tabD T) ∧ Tp K H fv (floorD F) ∧ Tp K H wv (wkD w) ∧
  (F.Pairwise fun a b => ltP a.pt b.pt) ∧ (∀ s ∈ F, s.2.2 ≠ 0) ∧ F.length ≤ 1000 ∧ ∀ D H', H D = none → StrAt K C H' a D T (cellsOf F) w → KeepE [a] H H' → Q .non H'
def spColOf (K : PySem.W.Frag) (C : Addr) : Sp := fun vs H Q _ => ∃ (a D p : Addr) (T : List (List Ent)) (m : CM) (w : Wk) (x y : Int), vs = [.ref a, .ref p] ∧ StrAt K C H a D T m w ∧ H p = some (.tup [.int x, .int y]) ∧ Q (.int (col m (x, y))) H
def spPaintO (K : PySem.W.Frag) (C : Addr) : Sp := fun vs H Q _ => ∃ (a D p : Addr) (T : List (List Ent)) (m : CM) (w : Wk) (x y c : Int), vs = [.ref a, .ref p, .int c] ∧ StrAt K C H a D T m w ∧ H p = some (.tup [.int x, .int y]) ∧ m.length ≤ 3000 ∧
  ∀ H', H' D = some (.dT (cellK (paintM m (x, y) c))) → KeepE [D] H H' → Q .non H'
def spReading (K : PySem.W.Frag) (C : Addr) : Sp := fun vs H Q _ => ∃ (a D : Addr) (T : List (List Ent)) (m : CM) (w : Wk), vs = [.ref a] ∧ StrAt K C H a D T m w ∧ ∀ v H', Tp K H' v (.tuple [.int w.2.2.2, .int (col m (wPt w))]) → Same H H' → Q v H'
def spStopped (K : PySem.W.Frag) (C : Addr) : Sp := fun vs H Q _ => ∃ (a D : Addr) (T : List (List Ent)) (m : CM) (w : Wk) (c n : Nat) (B : Int), vs = [.ref a] ∧ StrAt K C H a D T m w ∧ TabOk c n T ∧ Fit c n B (col m, w) ∧ ∀ b H', (b = true ↔ stepW T (col m, w) = none) → Same H H' → Q (.bl b) H'
def spGo (K : PySem.W.Frag) (C : Addr) : Sp := fun vs H Q _ => ∃ (a D : Addr) (T : List (List Ent)) (m : CM) (w : Wk) (c n : Nat) (B many : Int), vs = [.ref a, .int many] ∧ StrAt K C H a D T m w ∧ TabOk c n T ∧ Fit c n B (col m, w) ∧ (m.length : Int) + many ≤ 3000 ∧ 0 ≤ many ∧
  ∀ (L : Addr) (vs' : List V) (i : Nat) (m' : CM) (w' : Wk) H', H L = none → Ends T (col m, w) many.toNat i (col m', w') → StrAt K C H' a D T m' w' → m'.length ≤ m.length + i → H' L = some (.lst vs') → vs'.length = i → KeepE [a, D] H H' → Q (.ref L) H'
theorem StrAt.ne {K : PySem.W.Frag} {C : Addr} {H : Hp} {a D : Addr} {T : List (List Ent)} {m : CM} {w : Wk} (h : StrAt K C H a D T m w) : a ≠ D := by
  obtain ⟨dx, tv, gv, wv, e, _⟩ := h.ob
  exact ne_of e h.dc (by intro z; cases z)
theorem StrAt.soft {K : PySem.W.Frag} {C : Addr} {H : Hp} {a D : Addr} {T : List (List Ent)} {m : CM} {w : Wk} (h : StrAt K C H a D T m w) : ∀ b ∈ [a, D], Soft H b := by
  obtain ⟨dx, tv, gv, wv, e, _⟩ := h.ob
  intro b hb
  rcases List.mem_cons.mp hb with rfl | hb
  · exact Soft.ins e
  · rw [List.mem_singleton.mp hb]
    exact Soft.dT h.dc
theorem ahead_at {h : Int} (h0 : 0 ≤ h) (h1 : h < 4) {K : PySem.W.Frag} {b0 b1 b2 b3 : Addr} (k0 : KTu K b0 [.int 0, .int (-1)]) (k1 : KTu K b1 [.int 1, .int 0]) (k2 : KTu K b2 [.int 0, .int 1]) (k3 : KTu K b3 [.int (-1), .int 0]) :
    ∃ b, atI ([.ref b0, .ref b1, .ref b2, .ref b3] : List V) h = some (.ref b) ∧ KTu K b [.int (dxI h), .int (dyI h)] := by
  obtain ⟨n, rfl⟩ := Int.eq_ofNat_of_zero_le h0
  have c : n = 0 ∨ n = 1 ∨ n = 2 ∨ n = 3 := by omega
  rcases c with rfl | rfl | rfl | rfl
  · exact ⟨b0, at0, k0⟩
  · exact ⟨b1, at1, k1⟩
  · exact ⟨b2, at2, k2⟩
  · exact ⟨b3, at3, k3⟩
section
variable {P : Program} {w : World} {K : PySem.W.Frag} {mg : Str → Option Value} {base : Heap}
theorem ok_u_walker_behind (T : Txt K mg) (D : DefAt K mg "_walker_behind" s_u_walker_behind ["walker", "entry"]) : Cal P w K mg base CX0 "_walker_behind" 1 ["walker", "entry"] (spBehind K) := by
  refine D.cal sc_u_walker_behind (fun vs H Q E h => ?_) (fun f cdv A outer s H vs Q E hr h => ?_)
  · obtain ⟨wv, ev, wk, e, rfl, _⟩ := h
    rfl
  · obtain ⟨wv, ev, wk, e, rfl, hw, he, q⟩ := h
    obtain ⟨AA, b0, b1, b2, b3, hA, kA, k0, k1, k2, k3⟩ := T.ahead
    refine ⟨_, (pss_cons (ps_asg (pv 0) (pg_tup (by rfl) (pgs_cons (pg_name (i := 2) sc_u_walker_behind.nd rfl (Or.inl rfl)) (pgs_cons (pg_name (i := 3) sc_u_walker_behind.nd rfl (Or.inl rfl)) (pgs_cons (pg_name (i := 4) sc_u_walker_behind.nd rfl (Or.inl rfl)) (pgs_cons (pg_name (i := 5) sc_u_walker_behind.nd rfl (Or.inl rfl)) pgs_nil))))))
      (pss_cons (ps_asg (pv 1) (pg_tup (by rfl) (pgs_cons (pg_name (i := 5) sc_u_walker_behind.nd rfl (Or.inl rfl)) (pgs_cons (pg_name (i := 6) sc_u_walker_behind.nd rfl (Or.inl rfl)) (pgs_cons (pg_name (i := 7) sc_u_walker_behind.nd rfl (Or.inl rfl)) pgs_nil)))))
      (pss_cons (ps_set (i := 4) sc_u_walker_behind.nd rfl (Or.inl rfl) (pe_op op_mod (pe_op op_add (pv 4) (pv 6)) pe_int))
      (pss_cons (ps_asg (pe_ix (k_ix_tup (K := K)) (pe_glob (v := .ref AA) (by rfl) hA rfl) (pv 4) (fun _ _ => rfl)) (pg_tup (by rfl) (pgs_cons (pg_name (i := 8) sc_u_walker_behind.nd rfl (Or.inl rfl)) (pgs_cons (pg_name (i := 9) sc_u_walker_behind.nd rfl (Or.inl rfl)) pgs_nil))))
      (pss_one (ps_ret (pe_tup (pa_cons (pe_op op_add (pv 2) (pv 8)) (pa_cons (pe_op op_add (pv 3) (pv 9)) (pa_cons (pv 4) (pa_cons (pv 7) pa_nil))))))))))), ?_⟩
    obtain ⟨a, rfl, hsw⟩ := hw.int4
    obtain ⟨b, rfl, hse⟩ := (show Tp K H ev (.tuple [.int e.1, .int e.2.1, .int e.2.2]) from he).int3
    obtain ⟨bb, hat, kb⟩ := ahead_at (h := turnI wk e.2.1) (Int.emod_nonneg _ (by decide)) (Int.emod_lt_of_pos _ (by decide)) k0 k1 k2 k3
    have hat : atI ([.ref b0, .ref b1, .ref b2, .ref b3] : List V) ((wk.2.2.1 + e.2.1) % 4) = some (.ref bb) := hat
    have kAH := kA H
    have kbH := kb H
    walk_at "st"
    intro p np
    exact q _ _ (Tp.of_ints (ks := [_, _, _, _]) (SqT.of upd_same)) (Same.new np)
end

/-! ### methods of a class -/
structure MCal (P : Program) (w : World) (K : PySem.W.Frag) (mg : Str → Option Value) (base : Heap) (C : Addr) (m : Str) (k : Nat) (ps : List Str) (sp : Sp) : Prop where
  ex : ∃ (f : Addr) (fd : FuncData), Meth K C m f ∧ FnOk P w K mg base CX0 k f fd ps sp ∧ Binds K fd ps []
theorem MetAt.meth {K : PySem.W.Frag} {C : Addr} {m qual : Str} {st : Stmt} {ps : List Str} (M : MetAt K C m qual st ps) : ∃ (f : Addr) (fd : FuncData), Meth K C m f ∧ Fun K m qual st f fd ∧ Binds K fd ps [] := by
  obtain ⟨f, fd, iC, tI, F, b⟩ := M.ex
  exact ⟨f, fd, ⟨iC, by unfold PySem.W.isFn; rw [tI]; exact beq_self_eq_true _, F.kp⟩, F, b⟩
/-- a method some of whose last parameters have defaults: sp speaks of what is written -/
structure MCalD (P : Program) (w : World) (K : PySem.W.Frag) (mg : Str → Option Value) (base : Heap) (C : Addr) (m : Str) (k : Nat) (ps : List Str) (sp : Sp) : Prop where
  ex : ∃ (f : Addr) (fd : FuncData) (sp' : Sp) (dvs : List V) (ds : List Value), Meth K C m f ∧ FnOk P w K mg base CX0 k f fd ps sp' ∧ Vals dvs ds ∧ Binds K fd ps ds ∧ ∀ vs H Q E, sp vs H Q E → sp' (vs ++ dvs) H Q E
/-- a method as it stands, with a tuple of defaults -/
structure MetAtD (K : PySem.W.Frag) (C : Addr) (m qual : Str) (st : Stmt) (ps : List Str) (dvs : List V) : Prop where
  ex : ∃ (f : Addr) (fd : FuncData) (ds : List Value), PySem.W.findIn K (.ref C) m = some (some (.ref f)) ∧ PySem.W.typeIn K (.ref f) = some (.type "function") ∧ FunD K m qual (defArgs st) (defBody st) (defScope st) dvs [] f fd ∧ Vals dvs ds ∧ Binds K fd ps ds
theorem MetAtD.meth {K : PySem.W.Frag} {C : Addr} {m qual : Str} {st : Stmt} {ps : List Str} {dvs : List V} (M : MetAtD K C m qual st ps dvs) : ∃ (f : Addr) (fd : FuncData) (ds : List Value), Meth K C m f ∧ FunD K m qual (defArgs st) (defBody st) (defScope st) dvs [] f fd ∧ Vals dvs ds ∧ Binds K fd ps ds := by
  obtain ⟨f, fd, ds, iC, tI, F, v, b⟩ := M.ex
  exact ⟨f, fd, ds, ⟨iC, by unfold PySem.W.isFn; rw [tI]; exact beq_self_eq_true _, F.kp⟩, F, v, b⟩
section
variable {X : Cx} {k j : Nat} {C : Addr} {x m : Str} {ps : List Str} {sp : Sp} {p pos apos : Pos} {e o : Expr} {es : List Expr} {ta : TE} {t : TA} {pl : Sem Bool}
theorem pe_ownM (M : MCal X.prog X.w X.K X.mg X.base C m k ps sp) (c : Cls X.K C) (hr : Room j X.A) (hk : k ≤ j) (ho : PE X o ta) (ha : PA X (e :: es) t)
    (hst : starEach (e :: es) X.env = (false, eval e X.env) :: starEach es X.env := by rfl) (hpl : (backTo pos (starEach es X.env)).any (·.1) = false := by rfl)
    (ht : eval (.Call (.Attribute o m apos) (e :: es) [] pos) X.env = (do
      let ov ← eval o X.env
      standAt apos.atName
      let (f, first) ← holding [ov] (getMethod ov m pl)
      callWith pos f first (backTo pos (starEach (e :: es) X.env)) (backToKw pos (keywordEach [] X.env))) := by rfl) : PE X (.Call (.Attribute o m apos) (e :: es) [] pos) (tMeth C m sp [] E0 ta t) := by
  obtain ⟨f, fd, me, F, b⟩ := M.ex
  exact pe_meth (pl := pl) ho c me F (hr.mono hk) b .nil pass0 ha hst hpl ht
theorem pe_ownM0 (M : MCal X.prog X.w X.K X.mg X.base C m k ps sp) (c : Cls X.K C) (hr : Room j X.A) (hk : k ≤ j) (ho : PE X o ta)
    (ht : eval (.Call (.Attribute o m apos) [] [] pos) X.env = (do
      let ov ← eval o X.env
      standAt apos.atName
      let (f, first) ← holding [ov] (getMethod ov m pl)
      callWith pos f first (backTo pos (starEach [] X.env)) (backToKw pos (keywordEach [] X.env))) := by rfl) : PE X (.Call (.Attribute o m apos) [] [] pos) (tMeth C m sp [] E0 ta tNil) := by
  obtain ⟨f, fd, me, F, b⟩ := M.ex
  exact pe_meth0 (pl := pl) ho c me F (hr.mono hk) b .nil pass0 ht
/-- C(..) by its own __init__ -/
theorem pe_ownMk (M : MCal X.prog X.w X.K X.mg X.base C "__init__" k ps sp) (mk : PySem.W.makesIn X.K C = true) (kp : PySem.W.keepIn X.K (.ref C) = true) (hr : Room j X.A) (hk : k + 1 ≤ j) (hm : X.mg x = some (.ref C)) (ha : PA X (e :: es) t) (hg : Gl X x := by rfl)
    (hdb : (x == ("__debug__" : Str)) = false := by decide) (he : starEach (e :: es) X.env = (false, eval e X.env) :: starEach es X.env := by rfl) (hpl : (backTo pos (starEach es X.env)).any (·.1) = false := by rfl) :
    PE X (.Call (.Name x p) (e :: es) [] pos) (tMake C sp [] E0 t) := by
  obtain ⟨f, fd, me, F, b⟩ := M.ex
  exact pe_make ⟨mk, me.at_, me.fn, kp⟩ F (hr.mono hk) hg hm b .nil pass0 ha hdb he hpl
/-- C(..) by its own __init__, the defaults left out -/
theorem pe_ownMkD (M : MCalD X.prog X.w X.K X.mg X.base C "__init__" k ps sp) (mk : PySem.W.makesIn X.K C = true) (kp : PySem.W.keepIn X.K (.ref C) = true) (hr : Room j X.A) (hk : k + 1 ≤ j) (hm : X.mg x = some (.ref C)) (ha : PA X (e :: es) t) (hg : Gl X x := by rfl)
    (hdb : (x == ("__debug__" : Str)) = false := by decide) (he : starEach (e :: es) X.env = (false, eval e X.env) :: starEach es X.env := by rfl) (hpl : (backTo pos (starEach es X.env)).any (·.1) = false := by rfl) :
    PE X (.Call (.Name x p) (e :: es) [] pos) (tMake C sp [] E0 t) := by
  obtain ⟨f, fd, sp', dvs, ds, me, F, v, b, im⟩ := M.ex
  refine ⟨fun pins s σ H Q I h => ?_⟩
  refine wpAny_Call_Name_kw (ld_glob I hg hm ?_ hdb)
  refine PySem.W.callWith_K (h₀ := X.base) I.ok.mod.kin kp (thn (ha.run pos pins s σ H _ I h) fun us s1 ⟨vs, H1, I1, r, q⟩ => ⟨I1.kIn, ?_⟩) he hpl
  refine run_make ⟨mk, me.at_, me.fn, kp⟩ F (hr.mono hk) b v pass0 I1 r fun x dx h1 h2 h3 => ?_
  have q := q x dx h1 h2 h3
  rw [List.append_nil] at q
  exact im (.ref x :: vs) _ _ _ q
end
theorem putF_end {f : Str} {v : V} : ∀ {fs : List (Str × V)}, (∀ p ∈ fs, p.1 ≠ f) → putF f v fs = fs ++ [(f, v)]
  | [], _ => rfl
  | p :: r, h => by
    show (if p.1 = f then _ else _) = _
    rw [if_neg (h p List.mem_cons_self), putF_end fun q hq => h q (List.mem_cons_of_mem _ hq)]
    rfl
theorem sTP : ("table" : Str) ≠ "painted" := by decide +kernel
theorem sTW : ("table" : Str) ≠ "walker" := by decide +kernel
theorem sPW : ("painted" : Str) ≠ "walker" := by decide +kernel
theorem sTG : ("table" : Str) ≠ "ground" := by decide +kernel
theorem sGP : ("ground" : Str) ≠ "painted" := by decide +kernel
theorem sGW : ("ground" : Str) ≠ "walker" := by decide +kernel
theorem strF0 (tv gv : V) : putF "ground" gv [("table", tv)] = ([("table", tv), ("ground", gv)] : List (Str × V)) := putF_end fun p hp => by
  rw [List.mem_singleton.mp hp]
  exact sTG
theorem strF1 (tv gv : V) (D : Addr) : putF "painted" (.ref D) [("table", tv), ("ground", gv)] = ([("table", tv), ("ground", gv), ("painted", .ref D)] : List (Str × V)) := putF_end fun p hp => by
  rcases List.mem_cons.mp hp with rfl | hp
  · exact sTP
  · rw [List.mem_singleton.mp hp]
    exact sGP
theorem strF2 (tv gv : V) (D : Addr) (wv : V) : putF "walker" wv [("table", tv), ("ground", gv), ("painted", .ref D)] = strF tv gv D wv := putF_end fun p hp => by
  rcases List.mem_cons.mp hp with rfl | hp
  · exact sTW
  · rcases List.mem_cons.mp hp with rfl | hp
    · exact sGW
    · rw [List.mem_singleton.mp hp]
      exact sPW
theorem strF3 (tv gv : V) (D : Addr) (wv wv' : V) : putF "walker" wv' (strF tv gv D wv) = strF tv gv D wv' := by
  show (if ("table" : Str) = "walker" then _ else (("table" : Str), tv) :: (if ("ground" : Str) = "walker" then _ else (("ground" : Str), gv) :: (if ("painted" : Str) = "walker" then _ else (("painted" : Str), V.ref D) :: (if ("walker" : Str) = "walker" then _ else _)))) = _
  rw [if_neg sTW, if_neg sGW, if_neg sPW, if_pos rfl]
theorem lkT (tv gv : V) (D : Addr) (wv : V) : (strF tv gv D wv).lookup ("table" : Str) = some tv := by
  simp only [List.lookup_cons, beq_self_eq_true]
theorem lkG (tv gv : V) (D : Addr) (wv : V) : (strF tv gv D wv).lookup ("ground" : Str) = some gv := by
  simp only [List.lookup_cons, beq_self_eq_true, show (("ground" : Str) == "table") = false from beq_false_of_ne (Ne.symm sTG)]
theorem lkP (tv gv : V) (D : Addr) (wv : V) : (strF tv gv D wv).lookup ("painted" : Str) = some (.ref D) := by
  simp only [List.lookup_cons, beq_self_eq_true, show (("painted" : Str) == "table") = false from beq_false_of_ne (Ne.symm sTP), show (("painted" : Str) == "ground") = false from beq_false_of_ne (Ne.symm sGP)]
theorem lkW (tv gv : V) (D : Addr) (wv : V) : (strF tv gv D wv).lookup ("walker" : Str) = some wv := by
  simp only [List.lookup_cons, beq_self_eq_true, show (("walker" : Str) == "table") = false from beq_false_of_ne (Ne.symm sTW), show (("walker" : Str) == "ground") = false from beq_false_of_ne (Ne.symm sGW), show (("walker" : Str) == "painted") = false from beq_false_of_ne (Ne.symm sPW)]
/-- a name that is no field -/
theorem lkNo {n : Str} (tv gv : V) (D : Addr) (wv : V) (h : ((n == "table") || ((n == "ground") || ((n == "painted") || (n == "walker")))) = false) : (strF tv gv D wv).lookup n = none := by
  rw [Bool.or_eq_false_iff, Bool.or_eq_false_iff, Bool.or_eq_false_iff] at h
  simp only [List.lookup_cons, List.lookup_nil, h.1, h.2.1, h.2.2.1, h.2.2.2]
theorem small3k {n : Nat} (h : n ≤ 3000) : n < sizeLine := Nat.lt_of_le_of_lt h (by decide)
theorem tab_get {K : PySem.W.Frag} {H : Hp} {T : List (List Ent)} {c n : Nat} (ok : TabOk c n T) {s k : Int} (hs : 0 ≤ s ∧ s < n) (hk : 0 ≤ k ∧ k < c) {tv : V} (hv : Tp K H tv (tabD T)) :
    ∃ a vs b ws ev, tv = .ref a ∧ SqT K H a vs ∧ atI vs s = some (.ref b) ∧ SqT K H b ws ∧ atI ws k = some ev ∧ Tp K H ev (entD (entAt T s k)) := by
  obtain ⟨a, vs, rfl, h1, h2⟩ := hv.tupI
  obtain ⟨r, e1, lr, e2, _⟩ := entAt_ok ok hs hk
  obtain ⟨rv, e3, h3⟩ := h2.get (i := s.toNat) (d := rowD r) (by rw [List.getElem?_map, e1]; rfl)
  obtain ⟨b, ws, rfl, h4, h5⟩ := h3.tupI
  obtain ⟨ev, e4, h6⟩ := h5.get (i := k.toNat) (d := entD (entAt T s k)) (by rw [List.getElem?_map, e2]; rfl)
  refine ⟨a, vs, b, ws, ev, rfl, h1, ?_, h4, ?_, h6⟩
  · rw [show s = (s.toNat : Int) by omega]
    exact atI_nat e3
  · rw [show k = (k.toNat : Int) by omega]
    exact atI_nat e4
theorem col_get (m : CM) (p : Pt) : ((look m p).map V.int).getD (.int 0) = .int (col m p) := by
  unfold col
  cases look m p <;> rfl
theorem isD_dT {H : Hp} {a : Addr} {kvs : List (List Key × V)} (h : H a = some (.dT kvs)) : IsD H a := .inr ⟨kvs, .inl h⟩
section
variable {P : Program} {w : World} {K : PySem.W.Frag} {mg : Str → Option Value} {base : Heap}
theorem ok_Stroll_init {C BA : Addr} (S : ClsS K mg C) (hB : ∀ H, Tp K H (.ref BA) blankD) (M : MetAtD K C "__init__" "Stroll.__init__" s_Stroll_init ["self", "table", "floor", "walker", "ground"] [.ref BA]) (C_painted_places : Cal P w K mg base CX0 "painted_places" 1 ["floor"] (spPlaces K)) : MCalD P w K mg base C "__init__" 2 ["self", "table", "floor", "walker", "ground"] (spInit3 K C) := by
  obtain ⟨f, fd, ds, me, F, v, b⟩ := M.meth
  refine ⟨f, fd, spInit K C, _, ds, me, F.ok sc_Stroll_init (fun vs H Q E h => ?_) (fun cdv A outer s H vs Q E hr h => ?_), v, b, fun vs H Q E h => ?_⟩
  · obtain ⟨a, dx, tv, fv, wv, gv, T, F, wk, rfl, _⟩ := h
    rfl
  · obtain ⟨a, dx, tv, fv, wv, gv, T, Fl, wk, rfl, ha, hgr, ht, hf, hw, asc, nz, hl, q⟩ := h
    refine ⟨_, (pss_cons (k_sfld (K := K) (pv 0) (pv 1) (by rfl))
      (pss_cons (k_sfld (K := K) (pv 0) (pv 4) (by rfl))
      (pss_cons (k_sfld (K := K) (pv 0) (pe_own C_painted_places hr (by first | decide | omega) (pa_cons (pv 2) pa_nil)) (by rfl))
      (pss_one (k_sfld (K := K) (pv 0) (pv 3) (by rfl)))))), ?_⟩
    have cl := S.cl
    have nT := S.nT
    have nG := S.nG
    have nP := S.nP
    have nW := S.nW
    have l0 : ([] : List (Str × V)).length < 1000 := by decide
    have k1 : KeepE [a] H (upd (upd H a (.ins C dx (putF "table" tv []))) a (.ins C dx (putF "ground" gv (putF "table" tv [])))) := (KeepE.put List.mem_cons_self).trans (KeepE.put List.mem_cons_self)
    have t1 : TK H (upd (upd H a (.ins C dx (putF "table" tv []))) a (.ins C dx (putF "ground" gv (putF "table" tv [])))) := KeepE.tk (E := [a]) k1 fun b hb => by
      rw [List.mem_singleton.mp hb]
      exact Soft.ins ha
    have ha1 : (upd (upd H a (.ins C dx (putF "table" tv []))) a (.ins C dx (putF "ground" gv (putF "table" tv [])))) a = some (.ins C dx [("table", tv), ("ground", gv)]) := by
      rw [upd_same]
      show some (HO.ins C dx (putF "ground" gv [("table", tv)])) = _
      rw [strF0]
    have hf1 := Tp.mono t1 _ _ hf
    have l1 : (putF "table" tv ([] : List (Str × V))).length < 1000 := by show 1 < 1000; decide
    walk_at "st"
    generalize hH1 : upd (upd H a (.ins C dx (putF "table" tv []))) a (.ins C dx (putF "ground" gv (putF "table" tv []))) = H1 at *
    intro D H2 nD hD s1
    have ha2 : H2 a = some (.ins C dx [("table", tv), ("ground", gv)]) := s1 _ _ ha1
    have neD : D ≠ a := fun z => by
      rw [z, ha1] at nD
      cases nD
    have nD0 : H D = none := by
      cases e : H D with
      | none => rfl
      | some o =>
        rw [k1 D o (fun z => neD (List.mem_singleton.mp z)) e] at nD
        cases nD
    have l2 : ([("table", tv), ("ground", gv)] : List (Str × V)).length < 1000 := by show 2 < 1000; decide
    walk_at "st"
    have ha3 : (upd H2 a (.ins C dx (putF "painted" (.ref D) [("table", tv), ("ground", gv)]))) a = some (.ins C dx [("table", tv), ("ground", gv), ("painted", .ref D)]) := by rw [upd_same, strF1]
    have l3 : ([("table", tv), ("ground", gv), ("painted", .ref D)] : List (Str × V)).length < 1000 := by show 3 < 1000; decide
    walk_at "st"
    have k2 : KeepE [a] H2 (upd (upd H2 a (.ins C dx (putF "painted" (.ref D) [("table", tv), ("ground", gv)]))) a (.ins C dx (putF "walker" wv [("table", tv), ("ground", gv), ("painted", .ref D)]))) := (KeepE.put List.mem_cons_self).trans (KeepE.put List.mem_cons_self)
    have t2 : TK H (upd (upd H2 a (.ins C dx (putF "painted" (.ref D) [("table", tv), ("ground", gv)]))) a (.ins C dx (putF "walker" wv [("table", tv), ("ground", gv), ("painted", .ref D)]))) := by
      refine (t1.trans (Same.tk s1)).trans (k2.tk fun b hb => ?_)
      rw [List.mem_singleton.mp hb]
      exact Soft.ins ha2
    refine q D _ nD0 ⟨⟨dx, tv, gv, wv, by rw [upd_same, strF1, strF2], Tp.mono t2 _ _ ht, Tp.mono t2 _ _ hw, Tp.mono t2 _ _ hgr⟩, by rw [upd_ne neD, upd_ne neD]; exact hD, asc_nd asc, fun e he => ?_⟩ ?_
    · obtain ⟨s', hs', rfl⟩ := List.mem_map.mp he
      exact nz s' hs'
    · exact (k1.trans (Same.keepE s1)).trans k2
  · obtain ⟨a, dx, tv, fv, wv, T, Fl, wk, rfl, ha, rest⟩ := h
    exact ⟨a, dx, tv, fv, wv, .ref BA, T, Fl, wk, rfl, ha, hB H, rest⟩
theorem ok_Stroll_col {C : Addr} (S : ClsS K mg C) (M : MetAt K C "colour_of" "Stroll.colour_of" s_Stroll_colour_of ["self", "place"]) : MCal P w K mg base C "colour_of" 1 ["self", "place"] (spColOf K C) := by
  obtain ⟨f, fd, me, F, b⟩ := M.meth
  refine ⟨f, fd, me, F.ok sc_Stroll_colour_of (fun vs H Q E h => ?_) (fun cdv A outer s H vs Q E hr h => ?_), b⟩
  · obtain ⟨a, D, p, T, m, wk, x, y, rfl, _⟩ := h
    rfl
  · obtain ⟨a, D, p, T, m, wk, x, y, rfl, hS, hp, q⟩ := h
    refine ⟨_, (pss_one (ps_ret (pe_dget2 (hu_of hr) (k_fld (K := K) (pv 0) (by rfl)) (pv 1) pe_int (by exact ⟨rfl, rfl, rfl, rfl⟩)))), ?_⟩
    have cl := S.cl
    have nP := S.nP
    obtain ⟨⟨dx, tv, gv, wv, ha, ht, hw, hgr⟩, hD, nd, nz⟩ := hS
    have fP := lkP tv gv D wv
    have dD := isD_dT hD
    have cg := col_get m (x, y)
    have hg : DGet H D (.ref p) (valV (cellK m) (ptK (x, y))) := DGet.t hD hp
    rw [cell_val] at hg
    walk_at "st"
    rw [cg]
    exact q
theorem ok_Stroll_paint {C : Addr} (S : ClsS K mg C) (M : MetAt K C "paint" "Stroll.paint" s_Stroll_paint ["self", "place", "colour"]) (C_paint_square : Cal P w K mg base CX0 "paint_square" 1 ["painted", "place", "colour"] spPaint) : MCal P w K mg base C "paint" 2 ["self", "place", "colour"] (spPaintO K C) := by
  obtain ⟨f, fd, me, F, b⟩ := M.meth
  refine ⟨f, fd, me, F.ok sc_Stroll_paint (fun vs H Q E h => ?_) (fun cdv A outer s H vs Q E hr h => ?_), b⟩
  · obtain ⟨a, D, p, T, m, wk, x, y, c, rfl, _⟩ := h
    rfl
  · obtain ⟨a, D, p, T, m, wk, x, y, c, rfl, hS, hp, hl, q⟩ := h
    refine ⟨_, (pss_one (ps_expr (pe_own C_paint_square hr (by first | decide | omega) (pa_cons (k_fld (K := K) (pv 0) (by rfl)) (pa_cons (pv 1) (pa_cons (pv 2) pa_nil)))))), ?_⟩
    have cl := S.cl
    have nP := S.nP
    obtain ⟨⟨dx, tv, gv, wv, ha, ht, hw, hgr⟩, hD, nd, nz⟩ := hS
    have fP := lkP tv gv D wv
    walk_at "st"
    intro H' hD' k'
    walk_at "st"
    exact q H' hD' k'
end

theorem step_none {T : List (List Ent)} {z : WSt} (h : entAt T z.2.2.2.2 (z.1 (wPt z.2)) = none) : stepW T z = none := by
  unfold stepW
  rw [h]
  rfl
theorem step_some {T : List (List Ent)} {z : WSt} {e : Int × Int × Int} (h : entAt T z.2.2.2.2 (z.1 (wPt z.2)) = some e) : stepW T z = some (dab z.1 (wPt z.2) e.1, behind z.2 e) := by
  unfold stepW
  rw [h]
  rfl
theorem StrAt.mv {K : PySem.W.Frag} {C : Addr} {H H' : Hp} {a D : Addr} {T : List (List Ent)} {m : CM} {w : Wk} (h : StrAt K C H a D T m w) (t : TK H H') (ea : H' a = H a) (ed : H' D = H D) : StrAt K C H' a D T m w := by
  obtain ⟨⟨dx, tv, gv, wv, e, h1, h2, h3⟩, hD, nd, nz⟩ := h
  exact ⟨⟨dx, tv, gv, wv, ea.trans e, Tp.mono t _ _ h1, Tp.mono t _ _ h2, Tp.mono t _ _ h3⟩, ed.trans hD, nd, nz⟩
theorem StrAt.same {K : PySem.W.Frag} {C : Addr} {H H' : Hp} {a D : Addr} {T : List (List Ent)} {m : CM} {w : Wk} (h : StrAt K C H a D T m w) (s : Same H H') : StrAt K C H' a D T m w := by
  obtain ⟨dx, tv, gv, wv, e, _⟩ := h.ob
  exact h.mv (Same.tk s) ((s _ _ e).trans e.symm) ((s _ _ h.dc).trans h.dc.symm)

/-! ### what a stroll tells of its steps -/
def toldD (T : List (List Ent)) (y : WSt) : PyData := .tuple [wkD y.2, .int (y.1 (wPt y.2)), .int (((entAt T y.2.2.2.2 (y.1 (wPt y.2))).map (·.1)).getD 0)]
def toldL (T : List (List Ent)) (z : WSt) : Nat → List PyData
  | 0 => []
  | k + 1 => toldL T z k ++ (match runW T k z with | some y => [toldD T y] | none => [])
theorem toldL_some {T : List (List Ent)} {z y : WSt} {k : Nat} {e : Int × Int × Int} (h : runW T k z = some y) (he : entAt T y.2.2.2.2 (y.1 (wPt y.2)) = some e) : toldL T z (k + 1) = toldL T z k ++ [.tuple [wkD y.2, .int (y.1 (wPt y.2)), .int e.1]] := by
  show toldL T z k ++ (match runW T k z with | some y => [toldD T y] | none => []) = _
  rw [h]
  show toldL T z k ++ [toldD T y] = _
  unfold toldD
  rw [he]
  rfl
abbrev wkV (w : Wk) : List V := [.int w.1, .int w.2.1, .int w.2.2.1, .int w.2.2.2]
/-- a walker whose tuple is known -/
def Trk (H : Hp) (v : V) (w : Wk) : Prop := ∃ b, v = .ref b ∧ H b = some (.tup (wkV w))
theorem Trk.mono {H H' : Hp} {v : V} {w : Wk} (h : Trk H v w) (t : TK H H') : Trk H' v w := by
  obtain ⟨b, e1, e2⟩ := h
  exact ⟨b, e1, t.tup _ _ e2⟩
def TrkS (C : Addr) (H : Hp) (a D : Addr) (w : Wk) : Prop := ∃ dx tv gv v, H a = some (.ins C dx (strF tv gv D v)) ∧ Trk H v w
theorem TrkS.same {C a D : Addr} {H H' : Hp} {w : Wk} (h : TrkS C H a D w) (s : Same H H') : TrkS C H' a D w := by
  obtain ⟨dx, tv, gv, v, e1, e2⟩ := h
  exact ⟨dx, tv, gv, v, s _ _ e1, e2.mono (Same.tk s)⟩
def spBehindT (K : PySem.W.Frag) : Sp := fun vs H Q _ => ∃ (wv ev : V) (w : Wk) (e : Int × Int × Int), vs = [wv, ev] ∧ Tp K H wv (wkD w) ∧ Tp K H ev (entD (some e)) ∧ ∀ p H', H' p = some (.tup (wkV (behind w e))) → Same H H' → Q (.ref p) H'
def spGo2 (K : PySem.W.Frag) (C : Addr) : Sp := fun vs H Q _ => ∃ (a D : Addr) (T : List (List Ent)) (m : CM) (w : Wk) (c n : Nat) (B many : Int), vs = [.ref a, .int many] ∧ StrAt K C H a D T m w ∧ TabOk c n T ∧ Fit c n B (col m, w) ∧ (m.length : Int) + many ≤ 3000 ∧ 0 ≤ many ∧
  ∀ (L : Addr) (vs' : List V) (i : Nat) (m' : CM) (w' : Wk) H', H L = none → Ends T (col m, w) many.toNat i (col m', w') → StrAt K C H' a D T m' w' → m'.length ≤ m.length + i → H' L = some (.lst vs') → vs'.length = i → KeepE [a, D] H H' → TpAll K H' vs' (toldL T (col m, w) i) → (0 < i → TrkS C H' a D w') → Q (.ref L) H'
section
variable {P : Program} {w : World} {K : PySem.W.Frag} {mg : Str → Option Value} {base : Heap}
theorem ok_u_walker_behindT (T : Txt K mg) (D : DefAt K mg "_walker_behind" s_u_walker_behind ["walker", "entry"]) : Cal P w K mg base CX0 "_walker_behind" 1 ["walker", "entry"] (spBehindT K) := by
  refine D.cal sc_u_walker_behind (fun vs H Q E h => ?_) (fun f cdv A outer s H vs Q E hr h => ?_)
  · obtain ⟨wv, ev, wk, e, rfl, _⟩ := h
    rfl
  · obtain ⟨wv, ev, wk, e, rfl, hw, he, q⟩ := h
    obtain ⟨AA, b0, b1, b2, b3, hA, kA, k0, k1, k2, k3⟩ := T.ahead
    refine ⟨_, (pss_cons (ps_asg (pv 0) (pg_tup (by rfl) (pgs_cons (pg_name (i := 2) sc_u_walker_behind.nd rfl (Or.inl rfl)) (pgs_cons (pg_name (i := 3) sc_u_walker_behind.nd rfl (Or.inl rfl)) (pgs_cons (pg_name (i := 4) sc_u_walker_behind.nd rfl (Or.inl rfl)) (pgs_cons (pg_name (i := 5) sc_u_walker_behind.nd rfl (Or.inl rfl)) pgs_nil))))))
      (pss_cons (ps_asg (pv 1) (pg_tup (by rfl) (pgs_cons (pg_name (i := 5) sc_u_walker_behind.nd rfl (Or.inl rfl)) (pgs_cons (pg_name (i := 6) sc_u_walker_behind.nd rfl (Or.inl rfl)) (pgs_cons (pg_name (i := 7) sc_u_walker_behind.nd rfl (Or.inl rfl)) pgs_nil)))))
      (pss_cons (ps_set (i := 4) sc_u_walker_behind.nd rfl (Or.inl rfl) (pe_op op_mod (pe_op op_add (pv 4) (pv 6)) pe_int))
      (pss_cons (ps_asg (pe_ix (k_ix_tup (K := K)) (pe_glob (v := .ref AA) (by rfl) hA rfl) (pv 4) (fun _ _ => rfl)) (pg_tup (by rfl) (pgs_cons (pg_name (i := 8) sc_u_walker_behind.nd rfl (Or.inl rfl)) (pgs_cons (pg_name (i := 9) sc_u_walker_behind.nd rfl (Or.inl rfl)) pgs_nil))))
      (pss_one (ps_ret (pe_tup (pa_cons (pe_op op_add (pv 2) (pv 8)) (pa_cons (pe_op op_add (pv 3) (pv 9)) (pa_cons (pv 4) (pa_cons (pv 7) pa_nil))))))))))), ?_⟩
    obtain ⟨a, rfl, hsw⟩ := hw.int4
    obtain ⟨b, rfl, hse⟩ := (show Tp K H ev (.tuple [.int e.1, .int e.2.1, .int e.2.2]) from he).int3
    obtain ⟨bb, hat, kb⟩ := ahead_at (h := turnI wk e.2.1) (Int.emod_nonneg _ (by decide)) (Int.emod_lt_of_pos _ (by decide)) k0 k1 k2 k3
    have hat : atI ([.ref b0, .ref b1, .ref b2, .ref b3] : List V) ((wk.2.2.1 + e.2.1) % 4) = some (.ref bb) := hat
    have kAH := kA H
    have kbH := kb H
    walk_at "st"
    intro p np
    exact q _ _ upd_same (Same.new np)
theorem ok_Stroll_go2 (T : Txt K mg) {C : Addr} (S : ClsS K mg C) (MCl : MCal P w K mg base C "colour_of" 1 ["self", "place"] (spColOf K C)) (MPa : MCal P w K mg base C "paint" 2 ["self", "place", "colour"] (spPaintO K C)) (M : MetAt K C "go" "Stroll.go" s_Stroll_go ["self", "many"]) (C_walker_behind : Cal P w K mg base CX0 "_walker_behind" 1 ["walker", "entry"] (spBehindT K)) : MCal P w K mg base C "go" 3 ["self", "many"] (spGo2 K C) := by
  obtain ⟨f, fd, me, F, b⟩ := M.meth
  refine ⟨f, fd, me, F.ok sc_Stroll_go (fun vs H Q E h => ?_) (fun cdv A outer s H vs Q E hr h => ?_), b⟩
  · obtain ⟨a, D, Tb, m, wk, c, n, B, many, rfl, _⟩ := h
    rfl
  · obtain ⟨a, D, Tb, m, wk, c, n, B, many, rfl, hS, ok, fit, hm2, h0, q⟩ := h
    refine ⟨_, (pss_cons (ps_set (i := 2) sc_Stroll_go.nd rfl (Or.inl rfl) (pe_lst pa_nil))
      (pss_cons (ps_for PassesOwn.never rfl (pi_range1 (by rfl) T.m_range (pa_cons (pv 1) pa_nil)) (pg_name (i := 3) sc_Stroll_go.nd rfl (Or.inl rfl))
      (pss_cons (ps_set (i := 4) sc_Stroll_go.nd rfl (Or.inl rfl) (pe_slice (k_sl_tup (K := K)) (k_fld (K := K) (pv 0) (by rfl)) po_none (po_some pe_int)))
      (pss_cons (ps_set (i := 5) sc_Stroll_go.nd rfl (Or.inl rfl) (pe_ownM MCl S.cl hr (by decide) (pv 0) (pa_cons (pv 4) pa_nil)))
      (pss_cons (ps_set (i := 6) sc_Stroll_go.nd rfl (Or.inl rfl) (pe_ix (k_ix_tup (K := K)) (pe_ix (k_ix_tup (K := K)) (k_fld (K := K) (pv 0) (by rfl)) (pe_ix (k_ix_tup (K := K)) (k_fld (K := K) (pv 0) (by rfl)) pe_int (fun _ _ => rfl)) (fun _ _ => rfl)) (pv 5) (fun _ _ => rfl)))
      (pss_cons (ps_if (pt_cmpR op_isN (pv 6) pe_non (nomark _)) (pss_one ps_break) pss_nil)
      (pss_cons (ps_expr (pe_ownM MPa S.cl hr (by decide) (pv 0) (pa_cons (pv 4) (pa_cons (pe_ix (k_ix_tup (K := K)) (pv 6) pe_int (fun _ _ => rfl)) pa_nil))))
      (pss_cons (ps_expr (pe_bm PySem.F.plainAttrs_list PySem.F.slot_list_append PySem.F.type_list_append mt_append (pv 2) (pa_cons (pe_tup (pa_cons (k_fld (K := K) (pv 0) (by rfl)) (pa_cons (pv 5) (pa_cons (pe_ix (k_ix_tup (K := K)) (pv 6) pe_int (fun _ _ => rfl)) pa_nil)))) pa_nil)))
      (pss_one (k_sfld (K := K) (pv 0) (pe_own C_walker_behind hr (by first | decide | omega) (pa_cons (k_fld (K := K) (pv 0) (by rfl)) (pa_cons (pv 6) pa_nil))) (by rfl))))))))))
      (pss_one (ps_ret (pv 2))))), ?_⟩
    have cl := S.cl
    have nT := S.nT
    have nP := S.nP
    have nW := S.nW
    walk_at "st"
    intro L nL
    have soft := hS.soft
    have nLa : L ∉ [a, D] := fun z => by
      obtain ⟨dx, tv, gv, wv, e, _⟩ := hS.ob
      rcases List.mem_cons.mp z with z | z
      · rw [z, e] at nL
        cases nL
      · rw [List.mem_singleton.mp z, hS.dc] at nL
        cases nL
    walk_at "st"
    refine for_range (lo := 0) (n := many.toNat) (fun i σ H' => Ok (∃ (y3 y4 y5 y6 : Option V) (vs' : List V) (m' : CM) (w' : Wk), σ = [some (.ref a), some (.int many), some (.ref L), y3, y4, y5, y6] ∧
      runW Tb i (col m, wk) = some (col m', w') ∧ StrAt K C H' a D Tb m' w' ∧ m'.length ≤ m.length + i ∧ H' L = some (.lst vs') ∧ vs'.length = i ∧ KeepE [a, D] H H' ∧ TpAll K H' vs' (toldL Tb (col m, wk) i) ∧ (0 < i → TrkS C H' a D w'))) ?_ ?_ ?_
    · exact ⟨_, _, _, _, [], m, wk, rfl, rfl, hS.same (Same.new nL), Nat.le_refl _, upd_same, rfl, KeepE.new nL, .nil, fun z => absurd z (Nat.lt_irrefl 0)⟩
    · rintro i σ H' hi ⟨y3, y4, y5, y6, vs', m', w', rfl, hrun, hS', hml, hL, hvl, kp, htl, trk⟩
      have fit' := fit.run ok hrun
      have softS := hS'.soft
      have neaD := hS'.ne
      obtain ⟨⟨dx, tv, gv, wv, ha, ht, hw, hgr⟩, hD, nd, nz⟩ := id hS'
      have fT := lkT tv gv D wv
      have noC := lkNo (n := "colour_of") tv gv D wv (by decide +kernel)
      have fW := lkW tv gv D wv
      obtain ⟨wa, rfl, hsw⟩ := hw.int4
      have cb := fit'.cols (wPt w')
      have stb := fit'.st
      have neLD : L ≠ D := fun z => nLa (z ▸ List.mem_cons_of_mem _ List.mem_cons_self)
      have neLa : L ≠ a := fun z => nLa (z ▸ List.mem_cons_self)
      walk_at "st"
      intro p np
      have s1 : Same H' (upd H' p (.tup [.int w'.1, .int w'.2.1])) := Same.new np
      have hp1 : (upd H' p (.tup [.int w'.1, .int w'.2.1])) p = some (.tup [.int w'.1, .int w'.2.1]) := upd_same
      generalize hH1 : upd H' p (.tup [.int w'.1, .int w'.2.1]) = H1 at s1 hp1
      have ha1 := s1 _ _ ha
      have hD1 := s1 _ _ hD
      have hL1 := s1 _ _ hL
      have hsw1 := TK.seqT (Same.tk s1) hsw
      have hw1 := Tp.mono (Same.tk s1) _ _ hw
      obtain ⟨ta, tvs, rb, rws, ev, rfl, h1, h2, h3, h4, h5⟩ := tab_get ok stb cb (Tp.mono (Same.tk s1) _ _ ht)
      have kp1 : KeepE [a, D] H H1 := kp.trans (Same.keepE s1)
      have hS1 := hS'.same s1
      rw [show (upd H' p (.tup (cutV [.int w'.1, .int w'.2.1, .int w'.2.2.1, .int w'.2.2.2] none (some 2)))) = H1 from hH1]
      cases he : entAt Tb w'.2.2.2 (col m' (wPt w')) with
      | none =>
        have h5 : Tp K H1 ev (entD none) := he ▸ h5
        obtain rfl := h5.nonI
        walk_at "st"
        exact q L vs' i m' w' H1 nL ⟨hrun, Nat.le_of_lt hi, .inr (step_none he)⟩ hS1 hml hL1 hvl kp1 (TpAll.mono (Same.tk s1) _ _ htl) (fun z => (trk z).same s1)
      | some e =>
        have h5 : Tp K H1 ev (entD (some e)) := he ▸ h5
        obtain ⟨u, rfl, hse⟩ := h5.int3
        have hm3 : m'.length ≤ 3000 := by omega
        have noP := lkNo (n := "paint") (.ref ta) gv D (.ref wa) (by decide +kernel)
        walk_at "st"
        intro H2 hD2 k2
        have softD : ∀ b ∈ [D], Soft H1 b := fun b hb => by
          rw [List.mem_singleton.mp hb]
          exact Soft.dT hD1
        have t2 : TK H1 H2 := k2.tk softD
        have ha2 : H2 a = some (.ins C dx (strF (.ref ta) gv D (.ref wa))) := k2 _ _ (fun z => neaD (List.mem_singleton.mp z)) ha1
        have hL2 : H2 L = some (.lst vs') := k2 _ _ (fun z => neLD (List.mem_singleton.mp z)) hL1
        have hse2 := t2.seqT hse
        have hw2 := Tp.mono t2 _ _ hw1
        have h52 := Tp.mono t2 _ _ h5
        have ht1 := Tp.mono (Same.tk s1) _ _ ht
        have kp2 : KeepE [a, D] H H2 := kp1.trans (k2.mono fun b hb => List.mem_cons_of_mem _ hb)
        walk_at "st"
        intro t nt
        rw [show col m' (w'.1, w'.2.1) = col m' (wPt w') from rfl]
        have hsz : vs'.length < sizeLine := small3k (by omega)
        have hL3 : (upd H2 t (.tup [.ref wa, .int (col m' (wPt w')), .int e.1])) L = some (.lst vs') := by rw [upd_ne (ne_of_none hL2 nt)]; exact hL2
        have s3 : Same H2 (upd H2 t (.tup [.ref wa, .int (col m' (wPt w')), .int e.1])) := Same.new nt
        walk_at "st"
        have t4 : TK H2 (upd (upd H2 t (.tup [.ref wa, .int (col m' (wPt w')), .int e.1])) L (.lst (vs' ++ [.ref t]))) := (Same.tk s3).trans (TK.lst hL3)
        have ha4 : (upd (upd H2 t (.tup [.ref wa, .int (col m' (wPt w')), .int e.1])) L (.lst (vs' ++ [.ref t]))) a = some (.ins C dx (strF (.ref ta) gv D (.ref wa))) := by
          rw [upd_ne neLa.symm]
          exact s3 _ _ ha2
        have hD4 : (upd (upd H2 t (.tup [.ref wa, .int (col m' (wPt w')), .int e.1])) L (.lst (vs' ++ [.ref t]))) D = some (.dT (cellK (paintM m' (w'.1, w'.2.1) e.1))) := by
          rw [upd_ne neLD.symm]
          exact s3 _ _ hD2
        have hL4 : (upd (upd H2 t (.tup [.ref wa, .int (col m' (wPt w')), .int e.1])) L (.lst (vs' ++ [.ref t]))) L = some (.lst (vs' ++ [.ref t])) := upd_same
        have kp4 : KeepE [a, D] H (upd (upd H2 t (.tup [.ref wa, .int (col m' (wPt w')), .int e.1])) L (.lst (vs' ++ [.ref t]))) := (kp2.trans (Same.keepE s3)).fresh nL
        have hw4 := Tp.mono t4 _ _ hw2
        have hT4 : Tp K (upd (upd H2 t (.tup [.ref wa, .int (col m' (wPt w')), .int e.1])) L (.lst (vs' ++ [.ref t]))) (.ref t) (.tuple [wkD w', .int (col m' (wPt w')), .int e.1]) := .tup ((TK.lst hL3).seqT (SqT.of upd_same)) (.cons hw4 (.cons (.int _) (.cons (.int _) .nil)))
        have he4 := Tp.mono t4 _ _ h52
        have ht4 := Tp.mono ((t2).trans t4) _ _ ht1
        generalize hH4 : upd (upd H2 t (.tup [.ref wa, .int (col m' (wPt w')), .int e.1])) L (.lst (vs' ++ [.ref t])) = H4 at *
        walk_at "st"
        intro p5 H5 hp5 s5
        have hv5 : Tp K H5 (.ref p5) (wkD (behind w' e)) := Tp.of_ints (ks := [_, _, _, _]) (SqT.of hp5)
        have ha5 := s5 _ _ ha4
        have l3 : (strF (.ref ta) gv D (.ref wa)).length < 1000 := by show 4 < 1000; decide
        walk_at "st"
        have soft5 : ∀ b ∈ [a], Soft H5 b := fun b hb => by
          rw [List.mem_singleton.mp hb]
          exact Soft.ins ha5
        have k6 : KeepE [a] H5 (upd H5 a (.ins C dx (putF "walker" (.ref p5) (strF (.ref ta) gv D (.ref wa))))) := KeepE.put List.mem_cons_self
        have t6 := k6.tk soft5
        have t06 := (Same.tk s1).trans (t2.trans (t4.trans ((Same.tk s5).trans t6)))
        have ec : col (paintM m' (w'.1, w'.2.1) e.1) = dab (col m') (wPt w') e.1 := paint_col _ _ nd
        refine ⟨_, _, _, _, vs' ++ [.ref t], paintM m' (w'.1, w'.2.1) e.1, behind w' e, rfl, ?_, ⟨⟨dx, .ref ta, gv, .ref p5, by rw [upd_same, strF3], Tp.mono ((Same.tk s5).trans t6) _ _ ht4, Tp.mono t6 _ _ hv5, Tp.mono ((Same.tk s1).trans (t2.trans (t4.trans ((Same.tk s5).trans t6)))) _ _ hgr⟩, ?_, paint_nd _ _ nd, paint_nz nz⟩, ?_, ?_, ?_, ?_, ?_, fun _ => ⟨dx, .ref ta, gv, .ref p5, by rw [upd_same, strF3], p5, rfl, t6.tup _ _ hp5⟩⟩
        · show (runW Tb i (col m, wk)).bind (stepW Tb) = _
          rw [hrun, ec]
          exact step_some he
        · rw [upd_ne (Ne.symm neaD)]
          exact s5 _ _ hD4
        · have := paint_len m' (w'.1, w'.2.1) e.1
          omega
        · rw [upd_ne neLa]
          exact s5 _ _ hL4
        · rw [List.length_append, hvl]
          rfl
        · exact (kp4.trans (Same.keepE s5)).trans (k6.mono fun b hb => by rw [List.mem_singleton.mp hb]; exact List.mem_cons_self)
        · rw [toldL_some hrun he]
          exact TpAll.append (TpAll.mono t06 _ _ htl) (.cons (Tp.mono ((Same.tk s5).trans t6) _ _ hT4) .nil)
    · rintro σ H' ⟨y3, y4, y5, y6, vs', m', w', rfl, hrun, hS', hml, hL, hvl, kp, htl, trk⟩
      walk_at "st"
      exact q L vs' many.toNat m' w' H' nL ⟨hrun, Nat.le_refl _, .inl rfl⟩ hS' hml hL hvl kp htl trk
end
theorem go_of2 {P : Program} {w : World} {K : PySem.W.Frag} {mg : Str → Option Value} {base : Heap} {C : Addr} (M : MCal P w K mg base C "go" 3 ["self", "many"] (spGo2 K C)) : MCal P w K mg base C "go" 3 ["self", "many"] (spGo K C) := by
  obtain ⟨f, fd, me, F, b⟩ := M.ex
  refine ⟨f, fd, me, F.imp fun vs H Q E h => ?_, b⟩
  obtain ⟨a, D, T, m, w, c, n, B, many, rfl, h1, h2, h3, h4, h5, q⟩ := h
  exact ⟨a, D, T, m, w, c, n, B, many, rfl, h1, h2, h3, h4, h5, fun L vs' i m' w' H' g1 g2 g3 g4 g5 g6 g7 _ _ => q L vs' i m' w' H' g1 g2 g3 g4 g5 g6 g7⟩

/-! ### walk -/
/-- table, floor and walker that may be handed in -/
structure StandOk (c n : Nat) (B : Int) (T : List (List Ent)) (F : List Sq) (w : Wk) : Prop where
  tab : TabOk c n T
  good : tabB T = true
  n1 : 1 ≤ n
  c1 : 1 ≤ c
  fl : FlOk c B F
  wk : InB B (wPt w)
  hd : 0 ≤ w.2.2.1 ∧ w.2.2.1 < 4
  st : 0 ≤ w.2.2.2 ∧ w.2.2.2 < n
theorem StandOk.fit {c n : Nat} {B : Int} {T : List (List Ent)} {F : List Sq} {w : Wk} (h : StandOk c n B T F w) : Fit c n B (colF F, w) := h.fl.fit h.c1 h.wk h.hd h.st
theorem FlOk.mono {c : Nat} {B B' : Int} {F : List Sq} (h : FlOk c B F) (l : B ≤ B') : FlOk c B' F := ⟨h.asc, fun s hs => ⟨(h.sq s hs).1.mono l, (h.sq s hs).2⟩⟩
theorem StandOk.mono {c n : Nat} {B B' : Int} {T : List (List Ent)} {F : List Sq} {w : Wk} (h : StandOk c n B T F w) (l : B ≤ B') : StandOk c n B' T F w := ⟨h.tab, h.good, h.n1, h.c1, h.fl.mono l, h.wk.mono l, h.hd, h.st⟩
def spStand (K : PySem.W.Frag) : Sp := fun vs H Q _ => ∃ (tv fv wv : V) (c n : Nat) (T : List (List Ent)) (F : List Sq) (w : Wk), vs = [tv, fv, wv] ∧ Tp K H tv (tabD T) ∧ Tp K H fv (floorD F) ∧ Tp K H wv (wkD w) ∧ StandOk c n FarI T F w ∧ F.length ≤ 1000 ∧ ∀ H', Same H H' → Q .non H'
def stepD (F : List Sq) (w : Wk) : PyData := .tuple [floorD F, wkD w]
def walkD (F : List Sq) (w : Wk) (i : Nat) : PyData := .tuple [floorD F, wkD w, .int i]
def spWalk (K : PySem.W.Frag) : Sp := fun vs H Q _ => ∃ (tv fv wv : V) (many : Int) (c n : Nat) (T : List (List Ent)) (F : List Sq) (w : Wk), vs = [tv, fv, wv, .int many] ∧ Tp K H tv (tabD T) ∧ Tp K H fv (floorD F) ∧ Tp K H wv (wkD w) ∧ StandOk c n FarI T F w ∧ F.length ≤ 1000 ∧ 0 ≤ many ∧ many ≤ 1000 ∧
  ∀ v H' i F' z, Ends T (colF F, w) many.toNat i z → FloorOf z.1 F' → F'.length ≤ F.length + i → Tp K H' v (walkD F' z.2 i) → Same H H' → Q v H'
section
variable {P : Program} {w : World} {K : PySem.W.Frag} {mg : Str → Option Value} {base : Heap}
theorem ok_check_stand (T : Txt K mg) (D : DefAt K mg "check_stand" s_check_stand ["table", "floor", "walker"]) (C_check_table : Cal P w K mg base CX0 "check_table" 4 ["value"] (spCheckT K)) (C_check_floor : Cal P w K mg base CX0 "check_floor" 4 ["value", "colours"] (spFloorOk K)) (C_check_walker : Cal P w K mg base CX0 "check_walker" 4 ["value", "states"] (spCheckW K)) : Cal P w K mg base CX0 "check_stand" 5 ["table", "floor", "walker"] (spStand K) := by
  refine D.cal sc_check_stand (fun vs H Q E h => ?_) (fun f cdv A outer s H vs Q E hr h => ?_)
  · obtain ⟨tv, fv, wv, c, n, T, F, wk, rfl, _⟩ := h
    rfl
  · obtain ⟨tv, fv, wv, c, n, Tb, F, wk, rfl, ht, hf, hw, hs, hl, q⟩ := h
    refine ⟨_, (pss_cons (ps_expr (pe_own C_check_table hr (by first | decide | omega) (pa_cons (pv 0) pa_nil)))
      (pss_cons (ps_expr (pe_own C_check_floor hr (by first | decide | omega) (pa_cons (pv 1) (pa_cons (pe_callB (k_len_t (K := K)) (by rfl) T.m_len (by decide +kernel) (pa_cons (pe_ix (k_ix_tup (K := K)) (pv 0) pe_int (fun _ _ => rfl)) pa_nil)) pa_nil))))
      (pss_one (ps_expr (pe_own C_check_walker hr (by first | decide | omega) (pa_cons (pv 2) (pa_cons (pe_callB (k_len_t (K := K)) (by rfl) T.m_len (by decide +kernel) (pa_cons (pv 0) pa_nil)) pa_nil))))))), ?_⟩
    have hg := hs.good
    walk_at "st"
    intro H1 s1
    have ht1 := Tp.mono (Same.tk s1) _ _ ht
    have hf1 := Tp.mono (Same.tk s1) _ _ hf
    have hw1 := Tp.mono (Same.tk s1) _ _ hw
    obtain ⟨a, vs, rfl, h1, h2⟩ := ht1.tupI
    have hlen : vs.length = n := by rw [TpAll.length h2, List.length_map, hs.tab.1]
    have l0 : 0 < Tb.length := by rw [hs.tab.1]; exact hs.n1
    obtain ⟨rv, e3, h3⟩ := h2.get (i := 0) (d := rowD Tb[0]) (by rw [List.getElem?_map, List.getElem?_eq_getElem l0]; rfl)
    obtain ⟨b, ws, rfl, h4, h5⟩ := h3.tupI
    have hlen2 : ws.length = c := by
      rw [TpAll.length h5, List.length_map]
      exact (hs.tab.2 _ (List.getElem_mem l0)).1
    have hat : atI vs (0 : Int) = some (.ref b) := atI_nat (j := 0) e3
    have hfl := hs.fl
    walk_at "st"
    rw [hlen2]
    refine ⟨hfl, hl, fun H2 s2 => ?_⟩
    have h12 := TK.seqT (Same.tk s2) h1
    have hw2 := Tp.mono (Same.tk s2) _ _ hw1
    walk_at "st"
    have st := hs.st
    refine ⟨hs.wk, hs.hd, ⟨st.1, by omega⟩, fun H3 s3 => ?_⟩
    walk_at "st"
    exact q H3 (Same.trans s1 (Same.trans s2 s3))
end

/-! ### teams: one step in turn, beats -/
abbrev TSt := (Pt → Int) × List Wk
def oneT (T : List (List Ent)) (z : WSt) : WSt := (stepW T z).getD z
def tick (T : List (List Ent)) (s : TSt) (k : Nat) : TSt := match s.2[k]? with
  | none => s
  | some w => ((oneT T (s.1, w)).1, s.2.set k (oneT T (s.1, w)).2)
def upto (T : List (List Ent)) (s : TSt) : Nat → TSt
  | 0 => s
  | k + 1 => tick T (upto T s k) k
def beatT (T : List (List Ent)) (s : TSt) : Nat → TSt
  | 0 => s
  | b + 1 => upto T (beatT T s b) s.2.length
def itT (T : List (List Ent)) (z : WSt) : Nat → WSt
  | 0 => z
  | n + 1 => oneT T (itT T z n)
section
variable {T : List (List Ent)}
theorem tick_at {s : TSt} {k : Nat} {w : Wk} (h : s.2[k]? = some w) : tick T s k = ((oneT T (s.1, w)).1, s.2.set k (oneT T (s.1, w)).2) := by
  unfold tick
  rw [h]
theorem tick_len (s : TSt) (k : Nat) : (tick T s k).2.length = s.2.length := by
  unfold tick
  cases s.2[k]? with
  | none => rfl
  | some w => exact List.length_set
theorem upto_len (s : TSt) : ∀ k, (upto T s k).2.length = s.2.length
  | 0 => rfl
  | k + 1 => (tick_len _ _).trans (upto_len s k)
theorem beat_len (s : TSt) : ∀ b, (beatT T s b).2.length = s.2.length
  | 0 => rfl
  | b + 1 => (upto_len _ _).trans (beat_len s b)
theorem beat_one (z : WSt) : ∀ b, beatT T (z.1, [z.2]) b = ((itT T z b).1, [(itT T z b).2])
  | 0 => rfl
  | b + 1 => by
    show upto T (beatT T (z.1, [z.2]) b) 1 = _
    rw [beat_one z b]
    rfl
theorem it_add (z : WSt) (i : Nat) : ∀ k, itT T z (i + k) = itT T (itT T z i) k
  | 0 => rfl
  | k + 1 => by
    show oneT T (itT T z (i + k)) = oneT T (itT T (itT T z i) k)
    rw [it_add z i k]
theorem one_some {z z' : WSt} (h : stepW T z = some z') : oneT T z = z' := by
  unfold oneT
  rw [h]
  rfl
theorem one_none {z : WSt} (h : stepW T z = none) : oneT T z = z := by
  unfold oneT
  rw [h]
  rfl
theorem it_run {z : WSt} : ∀ {i : Nat} {z' : WSt}, runW T i z = some z' → itT T z i = z'
  | 0, z', h => Option.some.inj h
  | i + 1, z', h => by
    have h : (runW T i z).bind (stepW T) = some z' := h
    cases e : runW T i z with
    | none =>
      rw [e] at h
      cases h
    | some y =>
      rw [e] at h
      show oneT T (itT T z i) = z'
      rw [it_run e]
      exact one_some h
theorem it_stuck {z : WSt} (h : stepW T z = none) : ∀ k, itT T z k = z
  | 0 => rfl
  | k + 1 => by
    show oneT T (itT T z k) = z
    rw [it_stuck h k]
    exact one_none h
theorem Ends.it {z z' : WSt} {many i : Nat} (h : Ends T z many i z') : itT T z many = z' := by
  have l := h.le
  rw [show many = i + (many - i) by omega, it_add, it_run h.run]
  rcases h.stop with e | e
  · rw [show many - i = 0 by omega]
    rfl
  · exact it_stuck e _
/-- one walker goes as alone -/
theorem Ends.beat {z z' : WSt} {many i : Nat} (h : Ends T z many i z') : beatT T (z.1, [z.2]) many = (z'.1, [z'.2]) := by
  rw [beat_one, h.it]
/-! ### teams that fit -/
structure FitT (c n : Nat) (s : TSt) : Prop where
  cols : ∀ p, 0 ≤ s.1 p ∧ s.1 p < c
  near : ∃ B, (∀ p, s.1 p ≠ 0 → InB B p) ∧ ∀ w ∈ s.2, InB B (wPt w)
  wks : ∀ w ∈ s.2, (0 ≤ w.2.2.1 ∧ w.2.2.1 < 4) ∧ (0 ≤ w.2.2.2 ∧ w.2.2.2 < n)
theorem FitT.at {c n : Nat} {s : TSt} (h : FitT c n s) {w : Wk} (m : w ∈ s.2) : ∃ B, Fit c n B (s.1, w) := by
  obtain ⟨B, h1, h2⟩ := h.near
  exact ⟨B, h.cols, h1, h2 w m, (h.wks w m).1, (h.wks w m).2⟩
theorem FitT.tick {c n : Nat} (ok : TabOk c n T) {s : TSt} (h : FitT c n s) (k : Nat) : FitT c n (tick T s k) := by
  cases e : s.2[k]? with
  | none =>
    unfold Sb.tick
    rw [e]
    exact h
  | some w =>
    rw [tick_at e]
    have hm : w ∈ s.2 := List.mem_of_getElem? e
    obtain ⟨B, h1, h2⟩ := h.near
    have g : Fit c n B (s.1, w) := ⟨h.cols, h1, h2 w hm, (h.wks w hm).1, (h.wks w hm).2⟩
    have g2 : Fit c n (B + 1) (oneT T (s.1, w)) := by
      cases e2 : stepW T (s.1, w) with
      | none =>
        rw [one_none e2]
        exact ⟨g.cols, fun p hp => (g.near p hp).mono (by omega), g.wk.mono (by omega), g.hd, g.st⟩
      | some z =>
        rw [one_some e2]
        exact g.step ok e2
    refine ⟨g2.cols, ⟨B + 1, g2.near, fun v hv => ?_⟩, fun v hv => ?_⟩
    · rcases List.mem_or_eq_of_mem_set hv with q | q
      · exact (h2 v q).mono (by omega)
      · rw [q]
        exact g2.wk
    · rcases List.mem_or_eq_of_mem_set hv with q | q
      · exact h.wks v q
      · rw [q]
        exact ⟨g2.hd, g2.st⟩
theorem FitT.upto {c n : Nat} (ok : TabOk c n T) {s : TSt} (h : FitT c n s) : ∀ k, FitT c n (upto T s k)
  | 0 => h
  | k + 1 => (h.upto ok k).tick ok k
theorem FitT.beat {c n : Nat} (ok : TabOk c n T) {s : TSt} (h : FitT c n s) : ∀ b, FitT c n (beatT T s b)
  | 0 => h
  | b + 1 => (h.beat ok b).upto ok _
end

/-! ### the extreme corner: a turning table whose rounds turn both ways comes to no stand twice -/
def Turning (T : List (List Ent)) (c : Nat) (pa tu : Int → Int) : Prop := ∀ k : Int, 0 ≤ k → k < c → entAt T 0 k = some (pa k, tu k, 0) ∧ (tu k = 1 ∨ tu k = 3) ∧ 0 ≤ pa k ∧ pa k < c
def itP (pa : Int → Int) : Nat → Int → Int
  | 0, c => c
  | n + 1, c => pa (itP pa n c)
theorem lex_max (a b : Nat → Int) : ∀ p : Nat, ∃ k0, k0 < p + 1 ∧ ∀ k, k < p + 1 → a k < a k0 ∨ (a k = a k0 ∧ b k ≤ b k0)
  | 0 => ⟨0, by omega, fun k hk => by
    obtain rfl : k = 0 := by omega
    exact .inr ⟨rfl, Int.le_refl _⟩⟩
  | p + 1 => by
    obtain ⟨k0, h0, hm⟩ := lex_max a b p
    by_cases h : a k0 < a (p + 1) ∨ (a k0 = a (p + 1) ∧ b k0 ≤ b (p + 1))
    · refine ⟨p + 1, by omega, fun k hk => ?_⟩
      rcases Nat.lt_or_ge k (p + 1) with l | l
      · have := hm k l
        omega
      · obtain rfl : k = p + 1 := by omega
        exact .inr ⟨rfl, Int.le_refl _⟩
    · refine ⟨k0, by omega, fun k hk => ?_⟩
      rcases Nat.lt_or_ge k (p + 1) with l | l
      · exact hm k l
      · obtain rfl : k = p + 1 := by omega
        omega
theorem least_of {Q : Nat → Prop} : ∀ n, Q n → ∃ d, d ≤ n ∧ Q d ∧ ∀ i, i < d → ¬ Q i := by
  intro n
  induction n using Nat.strongRecOn with
  | ind n ih =>
    intro h
    by_cases e : ∃ m, m < n ∧ Q m
    · obtain ⟨m, l, q⟩ := e
      obtain ⟨d, d1, d2, d3⟩ := ih m l q
      exact ⟨d, by omega, d2, d3⟩
    · exact ⟨n, Nat.le_refl _, h, fun i l q => e ⟨i, l, q⟩⟩
section
variable {T : List (List Ent)} {c : Nat} {pa tu : Int → Int}
theorem Turning.one (h : Turning T c pa tu) {B : Int} {z : WSt} (g : Fit c 1 B z) : oneT T z = (dab z.1 (wPt z.2) (pa (z.1 (wPt z.2))), behind z.2 (pa (z.1 (wPt z.2)), tu (z.1 (wPt z.2)), 0)) := by
  have cb := g.cols (wPt z.2)
  have st := g.st
  have e0 : z.2.2.2.2 = 0 := by omega
  obtain ⟨e, _⟩ := h _ cb.1 cb.2
  refine one_some ?_
  unfold stepW
  rw [e0, e]
  rfl
theorem Turning.some (h : Turning T c pa tu) {B : Int} {z : WSt} (g : Fit c 1 B z) : stepW T z = Option.some (oneT T z) := by
  have cb := g.cols (wPt z.2)
  have st := g.st
  have e0 : z.2.2.2.2 = 0 := by omega
  obtain ⟨e, _⟩ := h _ cb.1 cb.2
  rw [h.one g]
  unfold stepW
  rw [e0, e]
  rfl
theorem Turning.fit (h : Turning T c pa tu) (ok : TabOk c 1 T) {B : Int} {z : WSt} (g : Fit c 1 B z) : ∀ k, ∃ B', Fit c 1 B' (itT T z k)
  | 0 => ⟨B, g⟩
  | k + 1 => by
    obtain ⟨B', g'⟩ := h.fit ok g k
    exact ⟨B' + 1, g'.step ok (h.some g')⟩
/-- level and upright ways in are told by the place -/
theorem par_step (w : Wk) (a t : Int) (ht : t = 1 ∨ t = 3) : ((behind w (a, t, 0)).1 + (behind w (a, t, 0)).2.1 + (behind w (a, t, 0)).2.2.1) % 2 = (w.1 + w.2.1 + w.2.2.1) % 2 := by
  show (w.1 + dxI ((w.2.2.1 + t) % 4) + (w.2.1 + dyI ((w.2.2.1 + t) % 4)) + (w.2.2.1 + t) % 4) % 2 = _
  have g0 : 0 ≤ (w.2.2.1 + t) % 4 := Int.emod_nonneg _ (by decide)
  have g1 : (w.2.2.1 + t) % 4 < 4 := Int.emod_lt_of_pos _ (by decide)
  unfold dxI dyI
  split <;> split <;> (try split) <;> (try split) <;> omega
theorem Turning.par (h : Turning T c pa tu) (ok : TabOk c 1 T) {B : Int} {z : WSt} (g : Fit c 1 B z) : ∀ k, ((itT T z k).2.1 + (itT T z k).2.2.1 + (itT T z k).2.2.2.1) % 2 = (z.2.1 + z.2.2.1 + z.2.2.2.1) % 2
  | 0 => rfl
  | k + 1 => by
    obtain ⟨B', g'⟩ := h.fit ok g k
    have cb := g'.cols (wPt (itT T z k).2)
    have t := (h _ cb.1 cb.2).2.1
    show ((oneT T (itT T z k)).2.1 + (oneT T (itT T z k)).2.2.1 + (oneT T (itT T z k)).2.2.2.1) % 2 = _
    rw [h.one g', ← h.par ok g k]
    exact par_step _ _ _ t
theorem it_per {z : WSt} {p : Nat} (hp : itT T z p = z) (k : Nat) : itT T z (k + p) = itT T z k := by
  rw [Nat.add_comm, it_add, hp]
theorem it_mod {z : WSt} {p : Nat} (h0 : 0 < p) (hp : itT T z p = z) (k : Nat) : itT T z k = itT T z (k % p) := by
  induction k using Nat.strongRecOn with
  | ind k ih =>
    rcases Nat.lt_or_ge k p with l | l
    · rw [Nat.mod_eq_of_lt l]
    · have e : itT T z k = itT T z (k - p) := by
        have := it_per hp (k - p)
        rw [show k - p + p = k by omega] at this
        exact this
      rw [e, ih (k - p) (by omega), Nat.mod_eq_sub_mod l]
/-- no stand comes again -/
theorem Turning.no_round (h : Turning T c pa tu) (ok : TabOk c 1 T) (both : ∀ k : Int, 0 ≤ k → k < c → (∃ n, tu (itP pa n k) = 1) ∧ ∃ n, tu (itP pa n k) = 3) {B : Int} {z : WSt} (g : Fit c 1 B z) {p : Nat} (h0 : 0 < p) (hp : itT T z p = z) : False := by
  obtain ⟨k0, hk0, hmax⟩ := lex_max (fun k => (itT T z k).2.1) (fun k => (itT T z k).2.2.1) (p - 1)
  have hall : ∀ k, (itT T z k).2.1 < (itT T z k0).2.1 ∨ ((itT T z k).2.1 = (itT T z k0).2.1 ∧ (itT T z k).2.2.1 ≤ (itT T z k0).2.2.1) := fun k => by
    have := hmax (k % p) (by have := Nat.mod_lt k h0; omega)
    rw [it_mod h0 hp k]
    exact this
  generalize hX : (itT T z k0).2.1 = X at *
  generalize hY : (itT T z k0).2.2.1 = Y at *
  -- each coming to the corner
  have turn : ∀ m, wPt (itT T z (m + 1)).2 = (X, Y) → ((itT T z (m + 1)).2.2.2.1 = 1 ∧ tu ((itT T z (m + 1)).1 (X, Y)) = 3) ∨ ((itT T z (m + 1)).2.2.2.1 = 2 ∧ tu ((itT T z (m + 1)).1 (X, Y)) = 1) := fun m hm => by
    obtain ⟨B1, g1⟩ := h.fit ok g m
    obtain ⟨B2, g2⟩ := h.fit ok g (m + 1)
    have cb2 := g2.cols (X, Y)
    have t2 := (h _ cb2.1 cb2.2).2.1
    have e1 : itT T z (m + 1) = oneT T (itT T z m) := rfl
    have e2 : itT T z (m + 1 + 1) = oneT T (itT T z (m + 1)) := rfl
    have b1 := hall m
    have b3 := hall (m + 1 + 1)
    have hd := g2.hd
    have hx : (itT T z (m + 1)).2.1 = X := congrArg Prod.fst hm
    have hy : (itT T z (m + 1)).2.2.1 = Y := congrArg Prod.snd hm
    rw [e2, h.one g2, hm] at b3
    have b3 : X + dxI (((itT T z (m + 1)).2.2.2.1 + tu ((itT T z (m + 1)).1 (X, Y))) % 4) < X ∨ (X + dxI (((itT T z (m + 1)).2.2.2.1 + tu ((itT T z (m + 1)).1 (X, Y))) % 4) = X ∧ Y + dyI (((itT T z (m + 1)).2.2.2.1 + tu ((itT T z (m + 1)).1 (X, Y))) % 4) ≤ Y) := by
      have b3 : (itT T z (m + 1)).2.1 + dxI (((itT T z (m + 1)).2.2.2.1 + tu ((itT T z (m + 1)).1 (X, Y))) % 4) < X ∨ ((itT T z (m + 1)).2.1 + dxI (((itT T z (m + 1)).2.2.2.1 + tu ((itT T z (m + 1)).1 (X, Y))) % 4) = X ∧ (itT T z (m + 1)).2.2.1 + dyI (((itT T z (m + 1)).2.2.2.1 + tu ((itT T z (m + 1)).1 (X, Y))) % 4) ≤ Y) := b3
      rw [hx, hy] at b3
      exact b3
    have px : (itT T z m).2.1 = X - dxI (itT T z (m + 1)).2.2.2.1 ∧ (itT T z m).2.2.1 = Y - dyI (itT T z (m + 1)).2.2.2.1 := by
      have q := e1
      rw [h.one g1] at q
      have qh : (itT T z (m + 1)).2.2.2.1 = turnI (itT T z m).2 (tu ((itT T z m).1 (wPt (itT T z m).2))) := by rw [q]; rfl
      have qx : (itT T z (m + 1)).2.1 = (itT T z m).2.1 + dxI (turnI (itT T z m).2 (tu ((itT T z m).1 (wPt (itT T z m).2)))) := by rw [q]; rfl
      have qy : (itT T z (m + 1)).2.2.1 = (itT T z m).2.2.1 + dyI (turnI (itT T z m).2 (tu ((itT T z m).1 (wPt (itT T z m).2)))) := by rw [q]; rfl
      rw [← qh] at qx qy
      omega
    rw [px.1, px.2] at b1
    generalize (itT T z (m + 1)).2.2.2.1 = hh at *
    generalize tu ((itT T z (m + 1)).1 (X, Y)) = tt at *
    obtain ⟨n, rfl⟩ := Int.eq_ofNat_of_zero_le hd.1
    have cn : n = 0 ∨ n = 1 ∨ n = 2 ∨ n = 3 := by omega
    rcases t2 with rfl | rfl <;> rcases cn with rfl | rfl | rfl | rfl <;> simp [dxI, dyI] at b1 b3 ⊢ <;> omega
  have par := h.par ok g
  -- the colours at the corner go through a round
  have vis : ∀ n, ∃ m, wPt (itT T z (m + 1)).2 = (X, Y) ∧ (itT T z (m + 1)).1 (X, Y) = itP pa n ((itT T z (k0 + p)).1 (X, Y)) := by
    intro n
    induction n with
    | zero =>
      refine ⟨k0 + p - 1, ?_, ?_⟩
      · rw [show k0 + p - 1 + 1 = k0 + p by omega, it_per hp]
        exact Prod.ext hX hY
      · rw [show k0 + p - 1 + 1 = k0 + p by omega]
        rfl
    | succ n ih =>
      obtain ⟨m, hm, hc⟩ := ih
      have keep : ∀ d, (∀ i, i < d → wPt (itT T z (m + 1 + 1 + i)).2 ≠ (X, Y)) → (itT T z (m + 1 + 1 + d)).1 (X, Y) = pa ((itT T z (m + 1)).1 (X, Y)) := by
        intro d
        induction d with
        | zero =>
          intro _
          obtain ⟨B2, g2⟩ := h.fit ok g (m + 1)
          show (oneT T (itT T z (m + 1))).1 (X, Y) = _
          rw [h.one g2, hm]
          exact if_pos rfl
        | succ d ihd =>
          intro hi
          obtain ⟨B2, g2⟩ := h.fit ok g (m + 1 + 1 + d)
          have hn := hi d (Nat.lt_succ_self _)
          show (oneT T (itT T z (m + 1 + 1 + d))).1 (X, Y) = _
          rw [h.one g2, ← ihd fun i l => hi i (by omega)]
          exact if_neg fun e => hn e.symm
      obtain ⟨d, _, hd, hl⟩ := least_of (Q := fun d => wPt (itT T z (m + 1 + 1 + d)).2 = (X, Y)) (p - 1) (by
        show wPt (itT T z (m + 1 + 1 + (p - 1))).2 = (X, Y)
        rw [show m + 1 + 1 + (p - 1) = m + 1 + p by omega, it_per hp]
        exact hm)
      refine ⟨m + 1 + d, by rw [show m + 1 + d + 1 = m + 1 + 1 + d by omega]; exact hd, ?_⟩
      rw [show m + 1 + d + 1 = m + 1 + 1 + d by omega, keep d hl, hc]
      rfl
  obtain ⟨Bk, gk⟩ := h.fit ok g (k0 + p)
  have cb := gk.cols (X, Y)
  obtain ⟨⟨n1, q1⟩, n3, q3⟩ := both _ cb.1 cb.2
  obtain ⟨m1, v1, c1⟩ := vis n1
  obtain ⟨m3, v3, c3⟩ := vis n3
  have t1 := turn m1 v1
  have t3 := turn m3 v3
  rw [c1, q1] at t1
  rw [c3, q3] at t3
  have p1 := par (m1 + 1)
  have p3 := par (m3 + 1)
  have x1 : (itT T z (m1 + 1)).2.1 = X := congrArg Prod.fst v1
  have y1 : (itT T z (m1 + 1)).2.2.1 = Y := congrArg Prod.snd v1
  have x3 : (itT T z (m3 + 1)).2.1 = X := congrArg Prod.fst v3
  have y3 : (itT T z (m3 + 1)).2.2.1 = Y := congrArg Prod.snd v3
  rw [x1, y1] at p1
  rw [x3, y3] at p3
  omega
end

/-! ### a turning table, once it is laid, and the extreme corner -/
theorem TurnL.turning {L : List Pt} (h : TurnL L) : Turning [tRow L] L.length (fun k => (paN L k.toNat : Int)) (fun k => tuOf L k.toNat) := by
  intro k h0 h1
  have hk : k.toNat < L.length := by omega
  have e := tRow_at hk
  have p := h.paN_lt hk
  have t : tuOf L k.toNat = (L[k.toNat]).2 := by
    unfold tuOf
    rw [List.getElem?_eq_getElem hk]
    rfl
  show entAt [tRow L] 0 k = some ((paN L k.toNat : Int), tuOf L k.toNat, 0) ∧ (tuOf L k.toNat = 1 ∨ tuOf L k.toNat = 3) ∧ (0 : Int) ≤ (paN L k.toNat : Int) ∧ (paN L k.toNat : Int) < L.length
  have pl := p.1
  refine ⟨?_, ?_, by omega, by omega⟩
  · unfold entAt
    show ((tRow L)[k.toNat]?).getD none = _
    rw [e]
    show some ((L[k.toNat]).1, (L[k.toNat]).2, (0 : Int)) = _
    rw [p.2, t]
  · rw [t]
    exact h.tu _ (List.getElem_mem hk)
theorem itP_itN {L : List Pt} (k : Nat) : ∀ n, itP (fun k => (paN L k.toNat : Int)) n (k : Int) = (itN L n k : Nat)
  | 0 => rfl
  | n + 1 => by
    show (paN L (itP (fun k => (paN L k.toNat : Int)) n (k : Int)).toNat : Int) = _
    rw [itP_itN k n, Int.toNat_natCast]
    rfl
theorem BothL.both {L : List Pt} (b : BothL L) : ∀ k : Int, 0 ≤ k → k < L.length → (∃ n, tuOf L (itP (fun k => (paN L k.toNat : Int)) n k).toNat = 1) ∧ ∃ n, tuOf L (itP (fun k => (paN L k.toNat : Int)) n k).toNat = 3 := by
  intro k h0 h1
  obtain ⟨⟨n, e⟩, m, f⟩ := b k.toNat (by omega)
  have z : ((k.toNat : Nat) : Int) = k := by omega
  refine ⟨⟨n, ?_⟩, m, ?_⟩
  · rw [← z, itP_itN, Int.toNat_natCast]
    exact e
  · rw [← z, itP_itN, Int.toNat_natCast]
    exact f
theorem TurnL.tab {L : List Pt} (h : TurnL L) : TabOk L.length 1 [tRow L] := by
  refine ⟨rfl, fun r hr => ?_⟩
  rw [List.mem_singleton.mp hr]
  refine ⟨List.length_map _, fun e he => ?_⟩
  obtain ⟨p, hp, rfl⟩ := List.mem_map.mp he
  have a := h.pa hp
  have t := h.tu p hp
  have t2 : 0 ≤ p.2 ∧ p.2 < 4 := by omega
  exact ⟨a, t2, by show (0 : Int) ≤ 0; decide, by show (0 : Int) < 1; decide⟩
/-- no stand comes twice -/
theorem TurnL.no_twice {L : List Pt} (h : TurnL L) (b : BothL L) {B : Int} {z : WSt} (g : Fit L.length 1 B z) {p : Nat} (h0 : 0 < p) : itT [tRow L] z p ≠ z := fun e => h.turning.no_round h.tab b.both g h0 e

/-! ### the record of a walk -/
abbrev recF (sv : V) (wl cl : Addr) (cv : V) : List (Str × V) := [("stroll", sv), ("walkers", .ref wl), ("counts", .ref cl), ("colours", cv)]
structure ClsR (K : PySem.W.Frag) (mg : Str → Option Value) (C : Addr) : Prop where
  cl : Cls K C
  nS : NoAttr K C "stroll"
  nWs : NoAttr K C "walkers"
  nCt : NoAttr K C "counts"
  nCo : NoAttr K C "colours"
  mgC : mg "Record" = some (.ref C)
theorem rlkW {sv cv : V} {wl cl : Addr} : (recF sv wl cl cv).lookup ("walkers" : Str) = some (.ref wl) := by
  simp only [List.lookup_cons, beq_self_eq_true, show (("walkers" : Str) == "stroll") = false by decide +kernel]
/-- the walkers behind each step -/
structure WlAt (K : PySem.W.Frag) (C : Addr) (H : Hp) (r : Addr) (ws : List Wk) : Prop where
  ob : ∃ dx sv wl cl cv us, H r = some (.ins C dx (recF sv wl cl cv)) ∧ H wl = some (.lst us) ∧ TpAll K H us (ws.map wkD)
def spRLen (K : PySem.W.Frag) (C : Addr) : Sp := fun vs H Q _ => ∃ (r : Addr) (ws : List Wk), vs = [.ref r] ∧ WlAt K C H r ws ∧ Q (.int ((ws.length : Int) - 1)) H
def spRWalker (K : PySem.W.Frag) (C : Addr) : Sp := fun vs H Q _ => ∃ (r : Addr) (ws : List Wk) (k : Nat) (x : Wk), vs = [.ref r, .int (k : Int)] ∧ WlAt K C H r ws ∧ ws[k]? = some x ∧ ∀ v, Tp K H v (wkD x) → (∀ dx sv wl cl cv us, H r = some (.ins C dx (recF sv wl cl cv)) → H wl = some (.lst us) → us[k]? = some v) → Q v H
section
variable {P : Program} {w : World} {K : PySem.W.Frag} {mg : Str → Option Value} {base : Heap}
local macro_rules | `(tactic| walk_at "cl") => `(tactic| first | (refine le_only ?_; omega) | (refine lt_only ?_; omega))
theorem ok_Record_length (T : Txt K mg) {C : Addr} (S : ClsR K mg C) (M : MetAt K C "length" "Record.length" s_Record_length ["self"]) : MCal P w K mg base C "length" 1 ["self"] (spRLen K C) := by
  obtain ⟨f, fd, me, F, b⟩ := M.meth
  refine ⟨f, fd, me, F.ok sc_Record_length (fun vs H Q E h => ?_) (fun cdv A outer s H vs Q E hr h => ?_), b⟩
  · obtain ⟨r, ws, rfl, _⟩ := h
    rfl
  · obtain ⟨r, ws, rfl, ⟨dx, sv, wl, cl, cv, us, hr1, hw, hus⟩, q⟩ := h
    refine ⟨_, (pss_one (ps_ret (pe_op op_sub (pe_callB (k_len_l (K := K)) (by rfl) T.m_len (by decide +kernel) (pa_cons (k_fld (K := K) (pv 0) (by rfl)) pa_nil)) pe_int))), ?_⟩
    have cl1 := S.cl
    have nWs := S.nWs
    have fW : (recF sv wl cl cv).lookup ("walkers" : Str) = some (.ref wl) := rlkW
    have hSw := SqL.of (K := K) hw
    have lus : us.length = ws.length := by rw [TpAll.length hus, List.length_map]
    rw [← lus] at q
    walk_at "st"
    exact q
theorem ok_Record_walker (T : Txt K mg) {C : Addr} (S : ClsR K mg C) (M : MetAt K C "walker_behind" "Record.walker_behind" s_Record_walker_behind ["self", "step"]) : MCal P w K mg base C "walker_behind" 1 ["self", "step"] (spRWalker K C) := by
  obtain ⟨f, fd, me, F, b⟩ := M.meth
  refine ⟨f, fd, me, F.ok sc_Record_walker_behind (fun vs H Q E h => ?_) (fun cdv A outer s H vs Q E hr h => ?_), b⟩
  · obtain ⟨r, ws, k, x, rfl, _⟩ := h
    rfl
  · obtain ⟨r, ws, k, x, rfl, ⟨dx, sv, wl, cl, cv, us, hr1, hw, hus⟩, hx, q⟩ := h
    refine ⟨_, (pss_one (ps_ret (pe_ix (k_ix_list (K := K)) (k_fld (K := K) (pv 0) (by rfl)) (pv 1) (fun _ _ => rfl)))), ?_⟩
    have cl1 := S.cl
    have nWs := S.nWs
    have fW : (recF sv wl cl cv).lookup ("walkers" : Str) = some (.ref wl) := rlkW
    have hSw := SqL.of (K := K) hw
    obtain ⟨u, eu, hu⟩ := hus.get (i := k) (d := wkD x) (by rw [List.getElem?_map, hx]; rfl)
    have hat : atI us (k : Int) = some u := atI_nat eu
    walk_at "st"
    exact q _ hu fun dx2 sv2 wl2 cl2 cv2 us2 z1 z2 => by
      rw [hr1] at z1
      injection z1 with z1
      injection z1 with _ _ z1
      have z3 : V.ref wl = V.ref wl2 := congrArg Prod.snd (List.cons.inj (List.cons.inj z1).2).1
      injection z3 with z3
      subst z3
      rw [hw] at z2
      injection z2 with z2
      injection z2 with z2
      rw [← z2]
      exact eu
end

/-! ### the trail's length and walkers -/
abbrev trF (tv fv wv : V) (r : Addr) : List (Str × V) := [("table", tv), ("floor", fv), ("walker", wv), ("record", .ref r)]
structure ClsT (K : PySem.W.Frag) (mg : Str → Option Value) (C : Addr) : Prop where
  cl : Cls K C
  nT : NoAttr K C "table"
  nF : NoAttr K C "floor"
  nW : NoAttr K C "walker"
  nR : NoAttr K C "record"
  mgC : mg "Trail" = some (.ref C)
theorem tlkR {tv fv wv : V} {r : Addr} : (trF tv fv wv r).lookup ("record" : Str) = some (.ref r) := by
  simp only [List.lookup_cons, beq_self_eq_true, show (("record" : Str) == "table") = false by decide +kernel, show (("record" : Str) == "floor") = false by decide +kernel, show (("record" : Str) == "walker") = false by decide +kernel]
theorem rno {sv cv : V} {wl cl : Addr} {x : Str} (h : (x == "stroll") = false ∧ (x == "walkers") = false ∧ (x == "counts") = false ∧ (x == "colours") = false) : (recF sv wl cl cv).lookup x = none := by
  simp only [List.lookup_cons, List.lookup_nil, h.1, h.2.1, h.2.2.1, h.2.2.2]
theorem tno {tv fv wv : V} {r : Addr} {x : Str} (h : (x == "table") = false ∧ (x == "floor") = false ∧ (x == "walker") = false ∧ (x == "record") = false) : (trF tv fv wv r).lookup x = none := by
  simp only [List.lookup_cons, List.lookup_nil, h.1, h.2.1, h.2.2.1, h.2.2.2]
structure TrAt (K : PySem.W.Frag) (CR CT : Addr) (H : Hp) (t : Addr) (ws : List Wk) : Prop where
  ob : ∃ dx tv fv wv r, H t = some (.ins CT dx (trF tv fv wv r)) ∧ WlAt K CR H r ws
def spTLen (K : PySem.W.Frag) (CR CT : Addr) : Sp := fun vs H Q _ => ∃ (t : Addr) (ws : List Wk), vs = [.ref t] ∧ TrAt K CR CT H t ws ∧ Q (.int ((ws.length : Int) - 1)) H
def spTWalker (K : PySem.W.Frag) (CR CT : Addr) : Sp := fun vs H Q _ => ∃ (t : Addr) (ws : List Wk) (k : Nat) (x : Wk), vs = [.ref t, .int (k : Int)] ∧ TrAt K CR CT H t ws ∧ ws[k]? = some x ∧ ∀ v, Tp K H v (wkD x) → (∀ dx tv fv wv r dx2 sv wl cl cv us, H t = some (.ins CT dx (trF tv fv wv r)) → H r = some (.ins CR dx2 (recF sv wl cl cv)) → H wl = some (.lst us) → us[k]? = some v) → Q v H
section
variable {P : Program} {w : World} {K : PySem.W.Frag} {mg : Str → Option Value} {base : Heap}
local macro_rules | `(tactic| walk_at "cl") => `(tactic| first | (refine le_only ?_; omega) | (refine lt_only ?_; omega))
theorem ok_Trail_length (T : Txt K mg) {CR CT : Addr} (SR : ClsR K mg CR) (S : ClsT K mg CT) (RL : MCal P w K mg base CR "length" 1 ["self"] (spRLen K CR)) (M : MetAt K CT "length" "Trail.length" s_Trail_length ["self"]) : MCal P w K mg base CT "length" 2 ["self"] (spTLen K CR CT) := by
  obtain ⟨f, fd, me, F, b⟩ := M.meth
  refine ⟨f, fd, me, F.ok sc_Trail_length (fun vs H Q E h => ?_) (fun cdv A outer s H vs Q E hr h => ?_), b⟩
  · obtain ⟨t, ws, rfl, _⟩ := h
    rfl
  · obtain ⟨t, ws, rfl, ⟨dx, tv, fv, wv, r, ht, hW⟩, q⟩ := h
    refine ⟨_, (pss_one (ps_ret (pe_ownM0 RL SR.cl hr (by decide) (k_fld (K := K) (pv 0) (by rfl))))), ?_⟩
    have cl1 := S.cl
    have nR := S.nR
    have clR := SR.cl
    have fR : (trF tv fv wv r).lookup ("record" : Str) = some (.ref r) := tlkR
    obtain ⟨dx2, sv, wl, cl, cv, us, hr1, hw, hus⟩ := id hW.ob
    have noL : (recF sv wl cl cv).lookup ("length" : Str) = none := rno (by decide +kernel)
    walk_at "st"
    exact q
theorem ok_Trail_walker (T : Txt K mg) {CR CT : Addr} (SR : ClsR K mg CR) (S : ClsT K mg CT) (C_check_number : Cal P w K mg base CX0 "check_number" 2 ["value", "least", "greatest"] spNumberOk) (TLn : MCal P w K mg base CT "length" 2 ["self"] (spTLen K CR CT)) (RW : MCal P w K mg base CR "walker_behind" 1 ["self", "step"] (spRWalker K CR)) (M : MetAt K CT "walker_at" "Trail.walker_at" s_Trail_walker_at ["self", "step"]) : MCal P w K mg base CT "walker_at" 3 ["self", "step"] (spTWalker K CR CT) := by
  obtain ⟨f, fd, me, F, b⟩ := M.meth
  refine ⟨f, fd, me, F.ok sc_Trail_walker_at (fun vs H Q E h => ?_) (fun cdv A outer s H vs Q E hr h => ?_), b⟩
  · obtain ⟨t, ws, k, x, rfl, _⟩ := h
    rfl
  · obtain ⟨t, ws, k, x, rfl, hT, hx, q⟩ := h
    refine ⟨_, (pss_cons (ps_expr (pe_own C_check_number hr (by first | decide | omega) (pa_cons (pv 1) (pa_cons pe_int (pa_cons (pe_ownM0 TLn S.cl hr (by decide) (pv 0)) pa_nil)))))
      (pss_one (ps_ret (pe_ownM RW SR.cl hr (by decide) (k_fld (K := K) (pv 0) (by rfl)) (pa_cons (pv 1) pa_nil))))), ?_⟩
    obtain ⟨dx, tv, fv, wv, r, ht, hW⟩ := id hT.ob
    have cl1 := S.cl
    have nR := S.nR
    have clR := SR.cl
    have fR : (trF tv fv wv r).lookup ("record" : Str) = some (.ref r) := tlkR
    obtain ⟨dx2, sv, wl, cl, cv, us, hr1, hw, hus⟩ := id hW.ob
    have noW : (recF sv wl cl cv).lookup ("walker_behind" : Str) = none := rno (by decide +kernel)
    have noL : (trF tv fv wv r).lookup ("length" : Str) = none := tno (by decide +kernel)
    have kl : k < ws.length := (List.getElem?_eq_some_iff.mp hx).1
    walk_at "st"
    intro v hv hk
    exact q v hv fun dx2 tv2 fv2 wv2 r2 dx3 sv3 wl3 cl3 cv3 us3 z1 z2 z3 => by
      rw [ht] at z1
      injection z1 with z1
      injection z1 with _ _ z1
      have z4 : V.ref r = V.ref r2 := congrArg Prod.snd (List.cons.inj (List.cons.inj (List.cons.inj (List.cons.inj z1).2).2).2).1
      injection z4 with z4
      subst z4
      exact hk _ _ _ _ _ _ z2 z3
end

/-! ### the colour of a place behind a step -/
abbrev Hist := List (Pt × Addr × List Pt)
def scD (p : Pt) : PyData := .tuple [.int p.1, .int p.2]
def histK (hs : Hist) : List (List Key × V) := hs.map fun e => (ptK e.1, V.ref e.2.1)
def lookH : Hist → Pt → Option (Addr × List Pt)
  | [], _ => none
  | e :: r, p => if e.1 = p then some e.2 else lookH r p
def latest (l : List Pt) (step : Int) : Int := ((l.reverse.find? fun e => decide (e.1 ≤ step)).map (·.2)).getD 0
def latH (hs : Hist) (p : Pt) (step : Int) : Int := ((lookH hs p).map fun e => latest e.2 step).getD 0
theorem hist_val : ∀ (hs : Hist) (p : Pt), valV (histK hs) (ptK p) = (lookH hs p).map fun e => V.ref e.1
  | [], _ => rfl
  | e :: r, p => by
    unfold lookH
    by_cases h : e.1 = p
    · rw [if_pos h]
      exact valV_pos (p := (ptK e.1, V.ref e.2.1)) (congrArg ptK h)
    · rw [if_neg h]
      exact (valV_neg (p := (ptK e.1, V.ref e.2.1)) (fun z => h (ptK_inj z))).trans (hist_val r p)
theorem lookH_mem : ∀ {hs : Hist} {p : Pt} {a : Addr} {l : List Pt}, lookH hs p = some (a, l) → (p, a, l) ∈ hs
  | e :: r, p, a, l, h => by
    unfold lookH at h
    by_cases z : e.1 = p
    · rw [if_pos z] at h
      have h := Option.some.inj h
      rw [← h, ← z]
      exact List.mem_cons_self
    · rw [if_neg z] at h
      exact List.mem_cons_of_mem _ (lookH_mem h)
/-- the dict of the histories, laid -/
structure HistAt (K : PySem.W.Frag) (H : Hp) (D : Addr) (hs : Hist) : Prop where
  dc : H D = some (.dT (histK hs))
  nd : (hs.map (·.1)).Nodup
  ls : ∀ e ∈ hs, ∃ us, H e.2.1 = some (.lst us) ∧ TpAll K H us (e.2.2.map scD)
/-- as HistAt, also while a loop walks the dict -/
structure HistR (K : PySem.W.Frag) (H : Hp) (D : Addr) (hs : Hist) : Prop where
  dc : Rd H D (.dT (histK hs))
  ls : ∀ e ∈ hs, ∃ us, H e.2.1 = some (.lst us) ∧ TpAll K H us (e.2.2.map scD)
theorem HistAt.rd {K : PySem.W.Frag} {H : Hp} {D : Addr} {hs : Hist} (h : HistAt K H D hs) : HistR K H D hs := ⟨.inl h.dc, h.ls⟩
theorem k_pi_rev {K : PySem.W.Frag} {X : Cx} {tg : Expr} {e : Expr} {te : TE} {p pos : Pos} (hg : Gl X "reversed") (hm : X.mg "reversed" = none) (he : PE X e te) (hs : starEach [e] X.env = (false, eval e X.env) :: starEach [] X.env := by rfl) (hK : X.K = K := by rfl) : PI X tg (.Call (.Name "reversed" p) [e] [] pos) (RT.iRevA K te) := hK ▸ RT.pi_revA hg hm he hs
theorem latest_at {l : List Pt} {i : Nat} {step : Int} {e : Pt} (h : l.reverse[i]? = some e) (no : ∀ x ∈ l.reverse.take i, ¬ x.1 ≤ step) (y : e.1 ≤ step) : latest l step = e.2 := by
  unfold latest
  have q : l.reverse = l.reverse.take i ++ (e :: l.reverse.drop (i + 1)) := by
    obtain ⟨hi, he⟩ := List.getElem?_eq_some_iff.mp h
    rw [← he, ← List.drop_eq_getElem_cons hi, List.take_append_drop]
  rw [q, List.find?_append, List.find?_eq_none.mpr fun x hx => by simpa using no x hx]
  rw [List.find?_cons_of_pos (by simpa using y)]
  rfl
theorem latest_no {l : List Pt} {step : Int} (no : ∀ x ∈ l.reverse, ¬ x.1 ≤ step) : latest l step = 0 := by
  unfold latest
  rw [List.find?_eq_none.mpr fun x hx => by simpa using no x hx]
  rfl
theorem rdSame {H H' : Hp} (s : Same H H') {a : Addr} {u : HO} (h : Rd H a u) : Rd H' a u := by
  rcases h with h | ⟨o, h⟩
  · exact .inl (s _ _ h)
  · exact .inr ⟨o, s _ _ h⟩
def spRColour (K : PySem.W.Frag) (C : Addr) : Sp := fun vs H Q _ => ∃ (r pa D : Addr) (p : Pt) (step : Int) (hs : Hist) (dx : Addr) (sv : V) (wl cl : Addr), vs = [.ref r, .int step, .ref pa] ∧ H r = some (.ins C dx (recF sv wl cl (.ref D))) ∧ HistR K H D hs ∧ H pa = some (.tup [.int p.1, .int p.2]) ∧ ∀ H', Same H H' → Q (.int (latH hs p step)) H'
theorem rlkC {sv cv : V} {wl cl : Addr} : (recF sv wl cl cv).lookup ("colours" : Str) = some cv := by
  simp only [List.lookup_cons, beq_self_eq_true, show (("colours" : Str) == "stroll") = false by decide +kernel, show (("colours" : Str) == "walkers") = false by decide +kernel, show (("colours" : Str) == "counts") = false by decide +kernel]
section
variable {P : Program} {w : World} {K : PySem.W.Frag} {mg : Str → Option Value} {base : Heap}
local macro_rules | `(tactic| walk_at "cl") => `(tactic| first | (refine le_only ?_; omega) | (refine lt_only ?_; omega))
theorem ok_Record_colour (T : Txt K mg) {C : Addr} (S : ClsR K mg C) (M : MetAt K C "colour_behind" "Record.colour_behind" s_Record_colour_behind ["self", "step", "place"]) : MCal P w K mg base C "colour_behind" 1 ["self", "step", "place"] (spRColour K C) := by
  obtain ⟨f, fd, me, F, b⟩ := M.meth
  refine ⟨f, fd, me, F.ok sc_Record_colour_behind (fun vs H Q E h => ?_) (fun cdv A outer s H vs Q E hr h => ?_), b⟩
  · obtain ⟨r, pa, D, p, step, hs, dx, sv, wl, cl, rfl, _⟩ := h
    rfl
  · obtain ⟨r, pa, D, p, step, hs, dx, sv, wl, cl, rfl, hr1, hh, hpa, q⟩ := h
    refine ⟨_, (pss_cons (ps_for PassesOwn.never rfl (k_pi_rev (K := K) (by rfl) T.m_reversed (pe_dget2 (hu_of hr) (k_fld (K := K) (pv 0) (by rfl)) (pv 2) (pe_lst pa_nil) (by exact ⟨rfl, rfl, rfl, rfl⟩))) (pg_tup (by rfl) (pgs_cons (pg_name (i := 3) sc_Record_colour_behind.nd rfl (Or.inl rfl)) (pgs_cons (pg_name (i := 4) sc_Record_colour_behind.nd rfl (Or.inl rfl)) pgs_nil)))
      (pss_one (ps_if (pt_cmpR op_le (pv 3) (pv 1) (nomark _)) (pss_one (ps_ret (pv 4))) pss_nil)))
      (pss_one (ps_ret pe_int))), ?_⟩
    have cl1 := S.cl
    have nCo := S.nCo
    have fC : (recF sv wl cl (.ref D)).lookup ("colours" : Str) = some (.ref D) := rlkC
    have dD : IsD H D := .inr ⟨_, hh.dc⟩
    walk_at "st"
    intro L nL
    have s1 : Same H (upd H L (.lst [])) := Same.new nL
    have hg : DGet (upd H L (.lst [])) D (.ref pa) (valV (histK hs) (ptK p)) := .inr ⟨histK hs, ptK p, pa, rdSame s1 hh.dc, rfl, s1 _ _ hpa, rfl⟩
    rw [hist_val] at hg
    obtain ⟨a, us, l, e, hL, hT, el⟩ : ∃ (a : Addr) (us : List V) (l : List Pt), (((lookH hs p).map fun e => V.ref e.1).getD (.ref L)) = .ref a ∧ SqL K (upd H L (.lst [])) a us ∧ TpAll K (upd H L (.lst [])) us (l.map scD) ∧ latest l step = latH hs p step := by
      unfold latH
      cases hq : lookH hs p with
      | none => exact ⟨L, [], [], rfl, SqL.of upd_same, .nil, rfl⟩
      | some x =>
        obtain ⟨us, h1, h2⟩ := hh.ls _ (lookH_mem (a := x.1) (l := x.2) hq)
        exact ⟨x.1, us, x.2, rfl, SqL.of (s1 _ _ h1), TpAll.mono (Same.tk s1) _ _ h2, rfl⟩
    refine ⟨_, hg, ?_⟩
    rw [e]
    have lus : us.length = l.length := by rw [TpAll.length hT, List.length_map]
    generalize hH1 : upd H L (.lst []) = H1 at *
    refine ⟨a, us, rfl, .inl ⟨hL, ?_⟩⟩
    refine RT.for_Itv (K := K) (a := a) (xs := us) (fun i σ H' => Ok (∃ y3 y4, σ = [some (.ref r), some (.int step), some (.ref pa), y3, y4] ∧ H' = H1 ∧ ∀ x ∈ l.reverse.take i, ¬ x.1 ≤ step)) ⟨_, _, rfl, rfl, fun _ h => absurd h List.not_mem_nil⟩ (fun i σ H' ⟨_, _, _, e, _⟩ => e ▸ hL) ?_ ?_
    · rintro i x σ H' hi hx ⟨y3, y4, rfl, rfl, no⟩
      have hil : l.length - 1 - i < l.length := by omega
      obtain ⟨u, eu, hu⟩ := hT.get (i := l.length - 1 - i) (d := scD l[l.length - 1 - i]) (by rw [List.getElem?_map, List.getElem?_eq_getElem hil]; rfl)
      rw [← lus, hx] at eu
      cases eu
      have er : l.reverse[i]? = some l[l.length - 1 - i] := by
        rw [List.getElem?_reverse (by omega), List.getElem?_eq_getElem hil]
      have htk := take_more er
      have lat := fun y => latest_at (step := step) er no y
      generalize l[l.length - 1 - i] = pr at *
      obtain ⟨b3, rfl, hb3⟩ := (show Tp K H' x (.tuple [.int pr.1, .int pr.2]) from hu).int2
      walk_at "st"
      refine ite2 (fun c => ?_) (fun c => ?_)
      · have c := of_decide_eq_true c
        have q := q H' s1
        rw [← el, lat c] at q
        walk_at "st"
        exact q
      · refine ⟨_, _, rfl, rfl, fun z hz => ?_⟩
        rw [htk] at hz
        rcases List.mem_append.mp hz with h | h
        · exact no z h
        · rw [List.mem_singleton.mp h]
          exact fun y => c (decide_eq_true y)
    · rintro σ H' ⟨y3, y4, rfl, rfl, no⟩
      rw [lus, List.take_of_length_le (by rw [List.length_reverse]; omega)] at no
      have q := q H' s1
      rw [← el, latest_no no] at q
      walk_at "st"
      exact q
end

/-! ### how a history grows (mathematics) -/
def histPut : Hist → Pt → Addr → Pt → Hist
  | [], p, a, x => [(p, a, [x])]
  | e :: r, p, a, x => if e.1 = p then (e.1, e.2.1, e.2.2 ++ [x]) :: r else e :: histPut r p a x
theorem lookH_put : ∀ (hs : Hist) (p q : Pt) (a : Addr) (x : Pt), lookH (histPut hs p a x) q = if q = p then some (match lookH hs p with | some e => (e.1, e.2 ++ [x]) | none => (a, [x])) else lookH hs q
  | [], p, q, a, x => by
    show (if p = q then some (a, [x]) else none) = if q = p then some (a, [x]) else none
    by_cases h : q = p
    · rw [if_pos h, if_pos h.symm]
    · rw [if_neg h, if_neg fun z => h z.symm]
  | e :: r, p, q, a, x => by
    unfold histPut
    by_cases h : e.1 = p
    · rw [if_pos h]
      show (if e.1 = q then some (e.2.1, e.2.2 ++ [x]) else lookH r q) = if q = p then some (match (if e.1 = p then some e.2 else lookH r p) with | some e => (e.1, e.2 ++ [x]) | none => (a, [x])) else (if e.1 = q then some e.2 else lookH r q)
      rw [if_pos h]
      by_cases g : q = p
      · rw [if_pos g, if_pos (h.trans g.symm)]
      · rw [if_neg g, if_neg fun z => g (z.symm.trans h)]
        rw [if_neg fun z => g (z.symm.trans h)]
    · rw [if_neg h]
      show (if e.1 = q then some e.2 else lookH (histPut r p a x) q) = if q = p then some (match (if e.1 = p then some e.2 else lookH r p) with | some e => (e.1, e.2 ++ [x]) | none => (a, [x])) else (if e.1 = q then some e.2 else lookH r q)
      rw [if_neg h, lookH_put r p q a x]
      by_cases g : q = p
      · rw [if_pos g, if_pos g, if_neg fun z => h (z.trans g)]
      · rw [if_neg g, if_neg g]
theorem latest_app {l : List Pt} {k c step : Int} : latest (l ++ [(k, c)]) step = if k ≤ step then c else latest l step := by
  unfold latest
  rw [List.reverse_append]
  show (((((k, c) :: l.reverse).find? fun e => decide (e.1 ≤ step)).map (·.2)).getD 0) = _
  by_cases h : k ≤ step
  · rw [if_pos h, List.find?_cons_of_pos (by simpa using h)]
    rfl
  · rw [if_neg h, List.find?_cons_of_neg (by simpa using h)]
theorem find_same {α : Type} {f g : α → Bool} : ∀ {l : List α}, (∀ x ∈ l, f x = g x) → l.find? f = l.find? g
  | [], _ => rfl
  | a :: l, h => by
    rw [List.find?_cons, List.find?_cons, h a List.mem_cons_self, find_same fun x hx => h x (List.mem_cons_of_mem _ hx)]
theorem latest_same {l : List Pt} {n step : Int} (h : ∀ x ∈ l, x.1 ≤ n) (hn : n ≤ step) : latest l step = latest l n := by
  have e := find_same (l := l.reverse) (f := fun e : Pt => decide (e.1 ≤ step)) (g := fun e : Pt => decide (e.1 ≤ n)) fun x hx => by
    have := h x (List.mem_reverse.mp hx)
    show decide (x.1 ≤ step) = decide (x.1 ≤ n)
    rw [decide_eq_true (show x.1 ≤ n from this), decide_eq_true (show x.1 ≤ step by omega)]
  unfold latest
  rw [e]
/-- the history of a walk's colours: right for each step up to n -/
structure HistOk (hs : Hist) (T : List (List Ent)) (z0 : WSt) (n : Nat) : Prop where
  le : ∀ e ∈ hs, ∀ x ∈ e.2.2, x.1 ≤ (n : Int)
  at_ : ∀ (j : Nat) (y : WSt), j ≤ n → runW T j z0 = some y → ∀ p, latH hs p j = y.1 p
theorem histPut_mem : ∀ {hs : Hist} {p : Pt} {a : Addr} {x : Pt} {e : Pt × Addr × List Pt}, e ∈ histPut hs p a x → (e ∈ hs) ∨ (e = (p, a, [x])) ∨ ∃ e0 ∈ hs, e0.1 = p ∧ e = (e0.1, e0.2.1, e0.2.2 ++ [x])
  | [], p, a, x, e, h => .inr (.inl (List.mem_singleton.mp h))
  | e0 :: r, p, a, x, e, h => by
    unfold histPut at h
    by_cases g : e0.1 = p
    · rw [if_pos g] at h
      rcases List.mem_cons.mp h with h | h
      · exact .inr (.inr ⟨e0, List.mem_cons_self, g, h⟩)
      · exact .inl (List.mem_cons_of_mem _ h)
    · rw [if_neg g] at h
      rcases List.mem_cons.mp h with h | h
      · exact .inl (h ▸ List.mem_cons_self)
      · rcases histPut_mem h with h | h | ⟨e1, h1, h2, h3⟩
        · exact .inl (List.mem_cons_of_mem _ h)
        · exact .inr (.inl h)
        · exact .inr (.inr ⟨e1, List.mem_cons_of_mem _ h1, h2, h3⟩)
theorem HistOk.step {hs : Hist} {T : List (List Ent)} {z0 y : WSt} {n : Nat} (h : HistOk hs T z0 n) (hy : runW T n z0 = some y) {e : Int × Int × Int} (he : entAt T y.2.2.2.2 (y.1 (wPt y.2)) = some e) (a : Addr) : HistOk (histPut hs (wPt y.2) a (((n + 1 : Nat) : Int), e.1)) T z0 (n + 1) := by
  refine ⟨fun e' hm x hx => ?_, fun j z lj hz p => ?_⟩
  · rcases histPut_mem hm with g | g | ⟨e0, g1, g2, g3⟩
    · have := h.le _ g x hx
      omega
    · rw [g] at hx
      rw [List.mem_singleton.mp hx]
      exact Int.le_refl _
    · rw [g3] at hx
      rcases List.mem_append.mp hx with hx | hx
      · have := h.le _ g1 x hx
        omega
      · rw [List.mem_singleton.mp hx]
        exact Int.le_refl _
  · have old : ∀ q, latH hs q n = y.1 q := h.at_ n y (Nat.le_refl _) hy
    unfold latH
    rw [lookH_put]
    rcases Nat.lt_or_ge n j with l | l
    · obtain rfl : j = n + 1 := by omega
      have ez : z = (dab y.1 (wPt y.2) e.1, behind y.2 e) := by
        have g : (runW T n z0).bind (stepW T) = some z := hz
        rw [hy] at g
        have g : stepW T y = some z := g
        unfold stepW at g
        rw [he] at g
        exact (Option.some.inj g).symm
      rw [ez]
      by_cases c : p = wPt y.2
      · rw [if_pos c]
        show (if p = wPt y.2 then e.1 else y.1 p) |> fun r => _ = r
        rw [if_pos c]
        cases lookH hs (wPt y.2) with
        | none =>
          show latest ([] ++ [_]) _ = _
          rw [latest_app, if_pos (Int.le_refl _)]
        | some e0 =>
          show latest (e0.2 ++ [_]) _ = _
          rw [latest_app, if_pos (Int.le_refl _)]
      · rw [if_neg c]
        show _ = if p = wPt y.2 then e.1 else y.1 p
        rw [if_neg c, ← old p]
        unfold latH
        cases hq : lookH hs p with
        | none => rfl
        | some e0 =>
          show latest e0.2 _ = latest e0.2 _
          exact latest_same (h.le _ (lookH_mem (a := e0.1) (l := e0.2) hq)) (by omega)
    · have z2 := h.at_ j z l hz p
      unfold latH at z2
      rw [← z2]
      by_cases c : p = wPt y.2
      · rw [if_pos c, c]
        cases lookH hs (wPt y.2) with
        | none =>
          show latest ([] ++ [_]) _ = 0
          rw [latest_app, if_neg (by omega)]
          rfl
        | some e0 =>
          show latest (e0.2 ++ [_]) _ = latest e0.2 _
          rw [latest_app, if_neg (by omega)]
      · rw [if_neg c]
theorem histK_put : ∀ (hs : Hist) (p : Pt) (a : Addr) (x : Pt), histK (histPut hs p a x) = if p ∈ hs.map (·.1) then histK hs else histK hs ++ [(ptK p, V.ref a)]
  | [], p, a, x => by
    rw [if_neg (show ¬ p ∈ ([] : Hist).map (·.1) from List.not_mem_nil)]
    rfl
  | e :: r, p, a, x => by
    unfold histPut
    by_cases h : e.1 = p
    · have hm : p ∈ (e :: r).map (·.1) := by
        rw [List.map_cons, h]
        exact List.mem_cons_self
      rw [if_pos h, if_pos hm]
      rfl
    · rw [if_neg h]
      show (ptK e.1, V.ref e.2.1) :: histK (histPut r p a x) = _
      rw [histK_put r p a x]
      by_cases g : p ∈ r.map (·.1)
      · have hm : p ∈ (e :: r).map (·.1) := List.mem_cons_of_mem _ g
        rw [if_pos g, if_pos hm]
        rfl
      · have hm : ¬ p ∈ (e :: r).map (·.1) := fun z => by
          rcases List.mem_cons.mp z with z | z
          · exact h z.symm
          · exact g z
        rw [if_neg g, if_neg hm]
        rfl
theorem histPut_keys : ∀ (hs : Hist) (p : Pt) (a : Addr) (x : Pt), (histPut hs p a x).map (·.1) = if p ∈ hs.map (·.1) then hs.map (·.1) else hs.map (·.1) ++ [p]
  | [], p, a, x => by
    rw [if_neg (show ¬ p ∈ ([] : Hist).map (·.1) from List.not_mem_nil)]
    rfl
  | e :: r, p, a, x => by
    unfold histPut
    by_cases h : e.1 = p
    · have hm : p ∈ (e :: r).map (·.1) := by
        rw [List.map_cons, h]
        exact List.mem_cons_self
      rw [if_pos h, if_pos hm]
      rfl
    · rw [if_neg h]
      show e.1 :: (histPut r p a x).map (·.1) = _
      rw [histPut_keys r p a x]
      by_cases g : p ∈ r.map (·.1)
      · have hm : p ∈ (e :: r).map (·.1) := List.mem_cons_of_mem _ g
        rw [if_pos g, if_pos hm]
        rfl
      · have hm : ¬ p ∈ (e :: r).map (·.1) := fun z => by
          rcases List.mem_cons.mp z with z | z
          · exact h z.symm
          · exact g z
        rw [if_neg g, if_neg hm]
        rfl
theorem histPut_new : ∀ {hs : Hist} {p : Pt} {a : Addr} {x : Pt}, p ∉ hs.map (·.1) → histPut hs p a x = hs ++ [(p, a, [x])]
  | [], p, a, x, _ => rfl
  | e :: r, p, a, x, h => by
    have h1 : e.1 ≠ p := fun z => h (by rw [List.map_cons, z]; exact List.mem_cons_self)
    have h2 : p ∉ r.map (·.1) := fun z => h (List.mem_cons_of_mem _ z)
    unfold histPut
    rw [if_neg h1, histPut_new h2]
    rfl
theorem histPut_adr : ∀ {hs : Hist} {p : Pt} {a : Addr} {x : Pt}, p ∈ hs.map (·.1) → (histPut hs p a x).map (fun e => e.2.1) = hs.map fun e => e.2.1
  | [], p, a, x, h => absurd h List.not_mem_nil
  | e :: r, p, a, x, h => by
    unfold histPut
    by_cases g : e.1 = p
    · rw [if_pos g]
      rfl
    · rw [if_neg g]
      have h2 : p ∈ r.map (·.1) := by
        rcases List.mem_cons.mp h with z | z
        · exact absurd z.symm g
        · exact z
      show e.2.1 :: (histPut r p a x).map (fun e => e.2.1) = _
      rw [histPut_adr h2]
      rfl
theorem lookH_some {hs : Hist} {p : Pt} (h : p ∈ hs.map (·.1)) : ∃ a l, lookH hs p = some (a, l) := by
  induction hs with
  | nil => exact absurd h List.not_mem_nil
  | cons e r ih =>
    unfold lookH
    by_cases g : e.1 = p
    · rw [if_pos g]
      exact ⟨e.2.1, e.2.2, rfl⟩
    · rw [if_neg g]
      rcases List.mem_cons.mp h with z | z
      · exact absurd z.symm g
      · exact ih z
theorem histPut_get : ∀ {hs : Hist} {p : Pt} {a a' : Addr} {x : Pt} {l : List Pt}, (hs.map (·.1)).Nodup → lookH hs p = some (a', l) → ∀ e ∈ histPut hs p a x, (e = (p, a', l ++ [x])) ∨ (e ∈ hs ∧ e.1 ≠ p)
  | [], p, a, a', x, l, _, h, _, _ => nomatch (show (none : Option (Addr × List Pt)) = some _ from h)
  | e0 :: r, p, a, a', x, l, nd, h, e, he => by
    obtain ⟨n1, n2⟩ := List.nodup_cons.mp (show (e0.1 :: r.map (·.1)).Nodup from nd)
    unfold lookH at h
    unfold histPut at he
    by_cases g : e0.1 = p
    · rw [if_pos g] at h he
      have h := Option.some.inj h
      rcases List.mem_cons.mp he with z | z
      · left
        rw [z, g]
        have h1 : e0.2.1 = a' := congrArg Prod.fst h
        have h2 : e0.2.2 = l := congrArg Prod.snd h
        rw [h1, h2]
      · right
        refine ⟨List.mem_cons_of_mem _ z, fun q => n1 ?_⟩
        rw [g, ← q]
        exact List.mem_map.mpr ⟨e, z, rfl⟩
    · rw [if_neg g] at h he
      rcases List.mem_cons.mp he with z | z
      · right
        rw [z]
        exact ⟨List.mem_cons_self, g⟩
      · rcases histPut_get n2 h e z with q | ⟨q1, q2⟩
        · exact .inl q
        · exact .inr ⟨List.mem_cons_of_mem _ q1, q2⟩

/-! ### a dict whose keys are tuples, made by a comprehension with a test -/
def tDcTi (wi : TI) (g : TG) (tt : TT) (tk tv : TE) (own : List Nat) : TE := fun σ H Q => wi σ H fun J H1 => ∀ D, H1 D = none → ∃ W : Nat → Nat → Hp → Prop, (∃ m, W 0 m (upd H1 D (.dT []))) ∧ ∀ i m H, W i m H →
  (J.stop i H ∧ Q (.ref D) H) ∨ (J.go i H ∧ ∃ Nx : Hp → Prop, (∀ H', Nx H' → ∃ m', m' < m ∧ W (i + 1) m' H') ∧ ∀ x H', J.yld i H x H' → g x (wipe σ own) H' fun σ2 H2 => wipe σ2 own = wipe σ own ∧
    tt σ2 H2 fun bt H3 => if bt = true then tk σ2 H3 fun y H4 => tv σ2 H4 fun c H5 => ∃ kvs k b, y = .ref b ∧ H5 b = some (.tup (k.map kV)) ∧ H5 D = some (.dT kvs) ∧ kvs.length < sizeLine ∧ Nx (upd H5 D (.dT (putK kvs k c))) else Nx H3)
theorem pe_dcTi {X : Cx} {kx vx tg iter : Expr} {ifs : List Expr} {tt : TT} {scope : Scope} {own : List (Str × Nat)} {pos : Pos} {wi : TI} {g : TG} {tk tv : TE} (calm : X.calm = true) (room : X.A.units < cLine) (nd : X.N.Nodup) (src : PI X tg iter wi) (blk : BlkOk X.N X.env.scope scope own)
    (aim : ∀ (z : Shared) (Hz : Hp) (cl : List (Str × Addr)) (C : Addr) (fp : List Addr), PG (X.blk z Hz scope (compEnvC scope cl C X.env) fp) tg g)
    (tst : ∀ (z : Shared) (Hz : Hp) (cl : List (Str × Addr)) (C : Addr) (fp : List Addr), PTs (X.blk z Hz scope (compEnvC scope cl C X.env) fp) ifs tt)
    (key : ∀ (z : Shared) (Hz : Hp) (cl : List (Str × Addr)) (C : Addr) (fp : List Addr), PE (X.blk z Hz scope (compEnvC scope cl C X.env) fp) kx tk)
    (val : ∀ (z : Shared) (Hz : Hp) (cl : List (Str × Addr)) (C : Addr) (fp : List Addr), PE (X.blk z Hz scope (compEnvC scope cl C X.env) fp) vx tv) (plain : ∀ x, foldedSetIterable iter X.env x = pure x := by intro _; rfl) :
    PE X (.DictComp kx vx [⟨tg, iter, ifs, 0⟩] scope pos) (tDcTi wi g tt tk tv (own.map (·.2))) := by
  refine ⟨fun pins s σ H Q I want => ?_⟩
  rw [arm_eval_DictComp]
  have outer : ∀ y ∈ scope.names, y.2 = .free → ∃ c, X.env.cells.lookup y.1 = some c := fun y hy e => (blk.free y hy e).elim (fun k => I.ok.has _ (.inl k)) fun k => I.ok.has _ (.inr k)
  refine wpAny_comprehension_free (use := none) rfl plain (closure_ok outer) blk.kind (fun y hy e => by rw [blk.uniq y hy, e]) (thn (src.run pins s σ H _ I want) fun _ _ begun => thn begun fun itv s2 ready => ?_)
  obtain ⟨it, fp, tn, J, H2, rfl, I2, T, at0, out2, rest⟩ := ready
  refine wpAny_newObj_type (newEnv_comp ?_)
  have fresh : H2 s2.heap.objs.size = none := I2.hok.fresh (Nat.le_refl _)
  obtain ⟨W, ⟨m0, w0⟩, turn⟩ := rest _ fresh
  have laid := I2.laid (a := s2.heap.objs.size) (o := .dT []) (t' := s2.toks) (fun b o e => Heap.get?_push_of_some _ e) (Nat.le_refl _) (dt_empty s2.heap I2.big)
  have below : ∀ b ∈ fp, b < s2.heap.objs.size := fun b hb => let ⟨_, e, _⟩ := T.obj _ _ at0 b hb; Heap.lt_size e
  have fp3 : ∀ b ∈ fp, FpOk X pins (upd H2 s2.heap.objs.size (.dT [])) b ∧ b < (s2.heap.push { cls := .type "dict", data := .dict #[] }).objs.size := fun b hb => by
    refine ⟨⟨(upd_ne (Nat.ne_of_lt (below b hb))).trans (out2 b hb).1, (out2 b hb).2⟩, ?_⟩
    rw [Heap.size_push]
    exact Nat.lt_succ_of_lt (below b hb)
  have at3 : tn 0 (s2.heap.push { cls := .type "dict", data := .dict #[] }) := T.keep _ _ _ at0 fun b _ o e => Heap.get?_push_of_some _ e
  generalize hz : ({ s2 with heap := s2.heap.push { cls := .type "dict", data := .dict #[] } } : Shared) = z at laid
  have hzh : z.heap = s2.heap.push { cls := .type "dict", data := .dict #[] } := by rw [← hz]
  rw [← hzh] at fp3 at3
  have inner := block_start laid blk nd fp3
  have aim' := aim z (upd H2 s2.heap.objs.size (.dT [])) (cellsFrom (z.heap.objs.size + 1) scope.names (cloFrom X.env.cells scope.names [])) z.heap.objs.size fp
  have tst' := tst z (upd H2 s2.heap.objs.size (.dT [])) (cellsFrom (z.heap.objs.size + 1) scope.names (cloFrom X.env.cells scope.names [])) z.heap.objs.size fp
  have key' := key z (upd H2 s2.heap.objs.size (.dT [])) (cellsFrom (z.heap.objs.size + 1) scope.names (cloFrom X.env.cells scope.names [])) z.heap.objs.size fp
  have val' := val z (upd H2 s2.heap.objs.size (.dT [])) (cellsFrom (z.heap.objs.size + 1) scope.names (cloFrom X.env.cells scope.names [])) z.heap.objs.size fp
  have noFp : ∀ b ∈ fp, upd H2 s2.heap.objs.size (.dT []) b = none := fun b hb => (fp3 b hb).1.1
  have goal2 : codeAny (model X.prog X.w) X.A (.compStart (.DictComp kx vx [⟨tg, iter, ifs, 0⟩] scope pos) 0 (.ref it) (.ref s2.heap.objs.size) (compEnvC scope (cellsFrom (z.heap.objs.size + 1) scope.names (cloFrom X.env.cells scope.names [])) z.heap.objs.size X.env))
      (compPost (model X.prog X.w) X.A X.xe none (EP X pins σ Q) (.ref s2.heap.objs.size) z.heap.objs.size) { z with heap := pushCells (z.heap.push { cls := .type "dict", data := .dict #[] }) scope.names } := ?_
  · exact goal2
  generalize hce : compEnvC scope (cellsFrom (z.heap.objs.size + 1) scope.names (cloFrom X.env.cells scope.names [])) z.heap.objs.size X.env = ce at inner aim' tst' key' val' ⊢
  have loc : ce.locals = z.heap.objs.size := by rw [← hce]; rfl
  generalize hB : upd H2 s2.heap.objs.size (.dT []) = Hb at laid inner aim' tst' key' val' w0 noFp fp3
  generalize hs4 : ({ z with heap := pushCells (z.heap.push { cls := .type "dict", data := .dict #[] }) scope.names } : Shared) = s4 at inner ⊢
  have at4 : tn 0 s4.heap := T.keep _ _ _ at3 fun b _ o e => by
    rw [← hs4]
    exact pushCells_keeps _ _ _ _ (Heap.get?_push_of_some _ e)
  have apart : ∀ {σ1 : L2.St} {H1 : Hp} {z1 : Shared}, Inv (X.blk z Hb scope ce fp) [] σ1 H1 z1 → (∀ b ∈ fp, H1 b = none) → ∀ b ∈ fp, FpOk (X.blk z Hb scope ce fp) [] H1 b := fun I1 n1 b hb =>
    ⟨n1 b hb, (I1.ok.exf b hb).1, I1.ok.exfs b hb, .inl hb, fun x c e => (I1.ok.exf b hb).2 x c e, fun p hp => nomatch hp⟩
  have loop : codeAny (model X.prog X.w) X.A (.compLoop (.DictComp kx vx [⟨tg, iter, ifs, 0⟩] scope pos) 0 (.ref it) (.ref s2.heap.objs.size) ce) (compPost (model X.prog X.w) X.A X.xe none (EP X pins σ Q) (.ref s2.heap.objs.size) z.heap.objs.size) s4 := by
    refine compLoop_anyD (fun n z1 => ∃ i H1, Inv (X.blk z Hb scope ce fp) [] (wipe σ (own.map (·.2))) H1 z1 ∧ tn i z1.heap ∧ (∀ b ∈ fp, H1 b = none) ∧ W i n H1) ?_ m0 ⟨0, Hb, inner, at4, noFp, w0⟩
    rintro n z5 ⟨i, H5, I5, at5, n5, w5⟩
    cases turn i n H5 w5 with
    | inl over =>
      obtain ⟨stop, told⟩ := over
      refine thnF (T.done (X.blk z Hb scope ce fp) rfl rfl rfl calm i [] z5 _ H5 (fun _ _ => False) I5 (apart I5 n5) at5 stop) fun r z6 ⟨hr, I6⟩ => ?_
      subst hr
      have back : Inv X pins σ H5 z6 := laid.call' (ch := fp) I6.os I6.base I6.hok I6.bare fun b hb => let f := (fp3 b hb).1; ⟨f.2.2.2.1, f.2.1, f.2.2.2.2.1, f.2.2.2.2.2⟩
      have nL : H5 z.heap.objs.size = none := by rw [← loc]; exact I6.free
      obtain ⟨m, ns, _⟩ := I6.loc
      have ns' : z6.heap.Ns ce.locals m := ns
      rw [loc] at ns'
      refine ⟨m, ns', fun h7 sb => ?_⟩
      have f := laid.fpOk (Nat.le_refl z.heap.objs.size) nL
      exact ⟨.ref s2.heap.objs.size, H5, back.turned (t' := z6.toks) (fun b o hb e => (sb.2 b hb).trans e) f.1 f.2.1 f.2.2.2.1 f.2.2.2.2.1 f.2.2.2.2.2, rfl, told⟩
    | inr more =>
      obtain ⟨go, Nx, after, step⟩ := more
      refine thnF (T.item (X.blk z Hb scope ce fp) rfl rfl rfl calm i [] z5 _ H5 (fun _ _ => False) I5 (apart I5 n5) at5 go) fun r z6 ⟨u, hr, h6⟩ => ?_
      subst hr
      refine thnF h6 fun _ z7 ⟨x, H7, I7, r7, y7, at7, n7⟩ => ?_
      refine thnF (aim'.run _ z7 _ H7 x u _ (I7.pinned (apart I7 n7) (T.obj _ _ at7)) r7 (step x H7 y7)) fun _ z8 ⟨σ8, H8, I8, same8, q8⟩ => ?_
      refine thnF (tst'.run _ z8 σ8 H8 _ I8 q8) fun bt z8' ⟨H8', I8', q8'⟩ => ?_
      have fin : ∀ {z' : Shared} {H' : Hp}, Inv (X.blk z Hb scope ce fp) ([] ++ pinsAt fp z7.heap) σ8 H' z' → Nx H' → ∃ m, m < n ∧ ∃ i H1, Inv (X.blk z Hb scope ce fp) [] (wipe σ (own.map (·.2))) H1 z' ∧ tn i z'.heap ∧ (∀ b ∈ fp, H1 b = none) ∧ W i m H1 := fun {z' H'} I' nx => by
        obtain ⟨m', less, w'⟩ := after _ nx
        have pin : ∀ c ∈ fp, ∀ o, z7.heap.get? c = some o → z'.heap.get? c = some o ∧ H' c = none := fun c hc o e => by
          have p := I'.pin (c, o) (List.mem_append_right _ (List.mem_append_right _ (mem_pinsAt hc e)))
          exact ⟨p.1, p.2.1⟩
        refine ⟨m', less, i + 1, _, (I'.unpinned (pins := [])).weak ?_ (fun j v e => ?_), T.keep _ _ _ at7 fun c hc o e => (pin c hc o e).1, fun c hc => ?_, w'⟩
        · rw [← same8, wipe_length]
        · rw [← same8] at e
          exact (wipe_some e).1
        · obtain ⟨o, e, _⟩ := T.obj _ _ at7 c hc
          exact (pin c hc o e).2
      cases bt with
      | false =>
        simp only [Bool.false_eq_true, if_false] at q8' ⊢
        exact fin I8' q8'
      | true =>
        simp only [if_true] at q8' ⊢
        refine thnF (key'.run _ z8' σ8 H8' _ I8' q8') fun ky z9 ⟨yk, H9, I9, r9, q9⟩ => ?_
        refine thnF (val'.run _ z9 σ8 H9 _ I9 q9) fun vy z10 ⟨yv, H10, I10, r10, kvs, k, b, eb, hb10, hD10, lt10, nx⟩ => ?_
        subst eb
        obtain rfl : ky = Value.ref b := r9
        exact dsetT (X := X.blk z Hb scope ce fp) room I10 hD10 hb10 lt10 r10 fun z11 I11 => fin I11 nx
  exact codeAny_compStart_dict loop (T.self X.A 0 _ _ _ at4 loop)
theorem dcTi_it {J : It} {n : Nat} {G : Hp → Prop} {Y : Nat → Hp → V → Hp → Prop} (w : Walk J n G Y) {g : TG} {tt : TT} {tk tv : TE} {vs : List Nat} {σ : L2.St} {H1 : Hp} {D : Addr} {Qd : Hp → Prop} (Pv : Nat → Hp → Prop) (h0 : Pv 0 (upd H1 D (.dT []))) (hG : ∀ i H, i ≤ n → Pv i H → G H)
    (hs : ∀ i x H H', i < n → Pv i H → Y i H x H' → g x (wipe σ vs) H' fun σ2 H2 => wipe σ2 vs = wipe σ vs ∧ tt σ2 H2 fun bt H3 => if bt = true then tk σ2 H3 fun y H4 => tv σ2 H4 fun c H5 => ∃ kvs k b, y = .ref b ∧ H5 b = some (.tup (k.map kV)) ∧ H5 D = some (.dT kvs) ∧ kvs.length < sizeLine ∧ Pv (i + 1) (upd H5 D (.dT (putK kvs k c))) else Pv (i + 1) H3) (hd : ∀ H, Pv n H → Qd H) :
    ∃ W : Nat → Nat → Hp → Prop, (∃ m, W 0 m (upd H1 D (.dT []))) ∧ ∀ i m H, W i m H →
      (J.stop i H ∧ Qd H) ∨ (J.go i H ∧ ∃ Nx : Hp → Prop, (∀ H', Nx H' → ∃ m', m' < m ∧ W (i + 1) m' H') ∧ ∀ x H', J.yld i H x H' → g x (wipe σ vs) H' fun σ2 H2 => wipe σ2 vs = wipe σ vs ∧
        tt σ2 H2 fun bt H3 => if bt = true then tk σ2 H3 fun y H4 => tv σ2 H4 fun c H5 => ∃ kvs k b, y = .ref b ∧ H5 b = some (.tup (k.map kV)) ∧ H5 D = some (.dT kvs) ∧ kvs.length < sizeLine ∧ Nx (upd H5 D (.dT (putK kvs k c))) else Nx H3) := by
  refine ⟨fun i m H => m = n - i ∧ i ≤ n ∧ Pv i H, ⟨n, rfl, Nat.zero_le _, h0⟩, fun i m H wi => ?_⟩
  obtain ⟨rfl, hi, p⟩ := wi
  have q := hG i H hi p
  rcases Nat.lt_or_ge i n with lt | ge
  · exact .inr ⟨w.goes i H lt q, Pv (i + 1), fun H' p' => ⟨n - (i + 1), by omega, rfl, lt, p'⟩, fun x H' y => hs i x H H' lt p (w.yields i H x H' lt q y)⟩
  · obtain rfl : i = n := Nat.le_antisymm hi ge
    exact .inl ⟨w.stops H q, hd H p⟩

/-! ### Record.__init__ -/
/-- the walkers of a walk, behind 0 steps and on -/
def wls (T : List (List Ent)) (z0 : WSt) (k : Nat) : List Wk := (List.range k).map fun j => ((runW T j z0).getD z0).2
theorem wls_succ (T : List (List Ent)) (z0 : WSt) (k : Nat) : wls T z0 (k + 1) = wls T z0 k ++ [((runW T k z0).getD z0).2] := by
  unfold wls
  rw [List.range_succ, List.map_append]
  rfl
structure RecAt (K : PySem.W.Frag) (CR CS : Addr) (H : Hp) (r a D Dc wl cl : Addr) (T : List (List Ent)) (z0 : WSt) (n : Nat) (m : CM) (w : Wk) (hs : Hist) : Prop where
  ob : ∃ dx us uc, H r = some (.ins CR dx (recF (.ref a) wl cl (.ref Dc))) ∧ H wl = some (.lst us) ∧ TpAll K H us ((wls T z0 (n + 1)).map wkD) ∧ H cl = some (.lst uc) ∧ uc.length = n + 1
  str : StrAt K CS H a D T m w
  run : runW T n z0 = some (col m, w)
  his : HistAt K H Dc hs
  ok : HistOk hs T z0 n
  wc : wl ≠ cl
  ne : ∀ e ∈ hs, e.2.1 ≠ wl ∧ e.2.1 ≠ cl
  nda : (hs.map fun e => e.2.1).Nodup
  lm : m.length ≤ 100 + n
  lh : hs.length ≤ 100 + n
  ll : ∀ e ∈ hs, e.2.2.length ≤ n + 1
  dd : Dc ≠ D
theorem lat_init : ∀ {hs : Hist} {F : List Sq}, hs.map (fun e => (e.1, e.2.2)) = F.map (fun s => (s.pt, [((0 : Int), s.2.2)])) → ∀ p, latH hs p 0 = colF F p
  | [], [], _, _ => rfl
  | [], _ :: _, h, _ => nomatch (show ([] : List (Pt × List Pt)) = _ :: _ from h)
  | _ :: _, [], h, _ => nomatch (show _ :: _ = ([] : List (Pt × List Pt)) from h)
  | e :: hs, s :: F, h, p => by
    obtain ⟨h1, h2⟩ := List.cons.inj (show (e.1, e.2.2) :: hs.map (fun e => (e.1, e.2.2)) = (s.pt, [((0 : Int), s.2.2)]) :: F.map (fun s => (s.pt, [((0 : Int), s.2.2)])) from h)
    have ih := lat_init h2 p
    have k1 : e.1 = s.pt := congrArg Prod.fst h1
    have k2 : e.2.2 = [(0, s.2.2)] := congrArg Prod.snd h1
    unfold latH colF col at ih ⊢
    show ((if e.1 = p then some e.2 else lookH hs p).map fun e => latest e.2 0).getD 0 = (if s.pt = p then some s.2.2 else look (cellsOf F) p).getD 0
    by_cases c : s.pt = p
    · rw [if_pos c, if_pos (k1.trans c)]
      show latest e.2.2 0 = s.2.2
      rw [k2]
      show latest ([] ++ [(0, s.2.2)]) 0 = s.2.2
      rw [latest_app, if_pos (Int.le_refl _)]
    · rw [if_neg c, if_neg fun z => c (k1.symm.trans z)]
      exact ih
theorem histK_snoc {hs : Hist} {p : Pt} {a : Addr} {l : List Pt} (n : p ∉ hs.map (·.1)) : putK (histK hs) (ptK p) (.ref a) = histK (hs ++ [(p, a, l)]) := by
  have nx : valV (histK hs) (ptK p) = none := by
    rw [hist_val]
    cases h : lookH hs p with
    | none => rfl
    | some x => exact absurd (List.mem_map.mpr ⟨(p, x.1, x.2), lookH_mem h, rfl⟩) n
  rw [putK_new _ nx]
  unfold histK
  rw [List.map_append]
  rfl
theorem tkS {H : Hp} {c : Addr} (s : Soft H c) {H' : Hp} (k : KeepE [c] H H') : TK H H' := k.tk fun b hb => by
  rw [List.mem_singleton.mp hb]
  exact s
theorem recP {f : Str} {v : V} {fs : List (Str × V)} {ns : List Str} (e : fs.map (·.1) = ns) (h : ∀ n ∈ ns, n ≠ f) : putF f v fs = fs ++ [(f, v)] := putF_end fun p hp => h _ (e ▸ List.mem_map.mpr ⟨p, hp, rfl⟩)
theorem recF1 {sv wl : V} : putF "walkers" wl ([("stroll", sv)] : List (Str × V)) = ([("stroll", sv), ("walkers", wl)] : List (Str × V)) := recP (ns := ["stroll"]) rfl (by decide +kernel)
theorem recF2 {sv wl cl : V} : putF "counts" cl ([("stroll", sv), ("walkers", wl)] : List (Str × V)) = ([("stroll", sv), ("walkers", wl), ("counts", cl)] : List (Str × V)) := recP (ns := ["stroll", "walkers"]) rfl (by decide +kernel)
theorem recF3 {sv wl cl cv : V} : putF "colours" cv ([("stroll", sv), ("walkers", wl), ("counts", cl)] : List (Str × V)) = ([("stroll", sv), ("walkers", wl), ("counts", cl), ("colours", cv)] : List (Str × V)) := recP (ns := ["stroll", "walkers", "counts"]) rfl (by decide +kernel)
def spRInit (K : PySem.W.Frag) (CR CS : Addr) : Sp := fun vs H Q _ => ∃ (r dx : Addr) (tv fv wv : V) (T : List (List Ent)) (F : List Sq) (w : Wk), vs = [.ref r, tv, fv, wv] ∧ H r = some (.ins CR dx []) ∧ Tp K H tv (tabD T) ∧ Tp K H fv (floorD F) ∧ Tp K H wv (wkD w) ∧
  (F.Pairwise fun a b => ltP a.pt b.pt) ∧ (∀ s ∈ F, s.2.2 ≠ 0) ∧ F.length ≤ 100 ∧ ∀ (a D Dc wl cl : Addr) (hs : Hist) H', RecAt K CR CS H' r a D Dc wl cl T (colF F, w) 0 (cellsOf F) w hs → KeepE [r] H H' → Q .non H'
section
variable {P : Program} {w : World} {K : PySem.W.Frag} {mg : Str → Option Value} {base : Heap}
local macro_rules | `(tactic| walk_at "cl") => `(tactic| first | (refine le_only ?_; omega) | (refine lt_only ?_; omega))
theorem ok_Record_init (T : Txt K mg) {CR CS : Addr} (S : ClsR K mg CR) (SS : ClsS K mg CS) (mkS : PySem.W.makesIn K CS = true) (kpS : PySem.W.keepIn K (.ref CS) = true) (MI : MCalD P w K mg base CS "__init__" 2 ["self", "table", "floor", "walker", "ground"] (spInit3 K CS)) (M : MetAt K CR "__init__" "Record.__init__" s_Record_init ["self", "table", "floor", "walker"]) : MCal P w K mg base CR "__init__" 4 ["self", "table", "floor", "walker"] (spRInit K CR CS) := by
  obtain ⟨f, fd, me, F, b⟩ := M.meth
  refine ⟨f, fd, me, F.ok sc_Record_init (fun vs H Q E h => ?_) (fun cdv A outer s H vs Q E hr h => ?_), b⟩
  · obtain ⟨r, dx, tv, fv, wv, Tb, Fl, wk, rfl, _⟩ := h
    rfl
  · obtain ⟨r, dx, tv, fv, wv, Tb, Fl, wk, rfl, hr1, ht, hf, hw, asc, nz, hl, q⟩ := h
    refine ⟨_, (pss_cons (k_sfld (K := K) (pv 0) (pe_ownMkD MI mkS kpS hr (by decide) SS.mgC (pa_cons (pv 1) (pa_cons (pv 2) (pa_cons (pv 3) pa_nil)))) (by rfl))
      (pss_cons (k_sfld (K := K) (pv 0) (pe_lst (pa_cons (pv 3) pa_nil)) (by rfl))
      (pss_cons (k_sfld (K := K) (pv 0) (pe_lst (pa_cons (pe_callB (k_len_t (K := K)) (by rfl) T.m_len (by decide +kernel) (pa_cons (pv 2) pa_nil)) pa_nil)) (by rfl))
      (pss_one (k_sfld (K := K) (pv 0) (pe_dcT (own := [("x", 4), ("y", 5), ("colour", 6)]) (g := gTup K 3 (gCons (gName 4) (gCons (gName 5) (gCons (gName 6) gNil)))) rfl hr.units0 sc_Record_init.nd (k_pi_tup (K := K) (pv 2)) (blkOk_by (by rfl)) (fun _ _ _ _ _ => (k_pgT (K := K) 3 (by rfl) (pgs_cons (pg_name (i := 4) sc_Record_init.nd rfl (Or.inl rfl)) (pgs_cons (pg_name (i := 5) sc_Record_init.nd rfl (Or.inl rfl)) (pgs_cons (pg_name (i := 6) sc_Record_init.nd rfl (Or.inl rfl)) pgs_nil))))) (fun _ _ _ _ _ => (pe_tup (pa_cons (pv 4) (pa_cons (pv 5) pa_nil)))) (fun _ _ _ _ _ => (pe_lst (pa_cons (pe_tup (pa_cons pe_int (pa_cons (pv 6) pa_nil))) pa_nil)))) (by rfl)))))), ?_⟩
    have cl1 := S.cl
    have nS := S.nS
    have nWs := S.nWs
    have nCt := S.nCt
    have nCo := S.nCo
    have clS := SS.cl
    walk_at "st"
    intro x dxs nx ndx nex
    have s2 : Same H (upd (upd H dxs (.own x)) x (.ins CS dxs [])) := fun b o e => by
      rw [upd_ne (ne_of_none e nx), upd_ne (ne_of_none e ndx)]
      exact e
    have hx2 : (upd (upd H dxs (.own x)) x (.ins CS dxs [])) x = some (.ins CS dxs []) := upd_same
    generalize hH2 : upd (upd H dxs (.own x)) x (.ins CS dxs []) = H2 at s2 hx2
    have nxr : x ≠ r := (ne_of_none hr1 nx).symm
    refine ⟨x, dxs, tv, fv, wv, Tb, Fl, wk, rfl, hx2, Tp.mono (Same.tk s2) _ _ ht, Tp.mono (Same.tk s2) _ _ hf, Tp.mono (Same.tk s2) _ _ hw, asc, nz, by omega, fun D H3 nD hS k3 => ⟨rfl, ?_⟩⟩
    have s3 : Same H H3 := (KeepE.trans (Same.keepE s2) k3).same fun b hb => by
      rw [List.mem_singleton.mp hb]
      exact nx
    have hr3 := s3 _ _ hr1
    have nDr : D ≠ r := (ne_of_none hr1 (Same.back s2 nD)).symm
    have l0 : ([] : List (Str × V)).length < 1000 := by decide
    obtain ⟨fa, fvs, rfl, hfa, hfvs⟩ := hf.tupI
    have lfv : fvs.length = Fl.length := by rw [TpAll.length hfvs, List.length_map]
    have t03 := Same.tk s3
    clear hH2 hx2 k3
    walk_at "st"
    have hr4 : (upd H3 r (.ins CR dx (putF "stroll" (.ref x) []))) r = some (.ins CR dx [("stroll", .ref x)]) := upd_same
    have k4 : KeepE [r] H3 (upd H3 r (.ins CR dx (putF "stroll" (.ref x) []))) := KeepE.put List.mem_cons_self
    generalize hH4 : upd H3 r (.ins CR dx (putF "stroll" (.ref x) [])) = H4 at *
    intro Lw nLw
    have s5 : Same H4 (upd H4 Lw (.lst [wv])) := Same.new nLw
    have hw5 : (upd H4 Lw (.lst [wv])) Lw = some (.lst [wv]) := upd_same
    have hr5 := s5 _ _ hr4
    have nLwr : Lw ≠ r := (ne_of_none hr4 nLw).symm
    generalize hH5 : upd H4 Lw (.lst [wv]) = H5 at *
    have l1 : ([("stroll", V.ref x)] : List (Str × V)).length < 1000 := by show 1 < 1000; decide
    have t35 : TK H3 H5 := (tkS (Soft.ins hr3) k4).trans (Same.tk s5)
    have hfa6 : SqT K (upd H5 r (.ins CR dx (putF "walkers" (.ref Lw) [("stroll", .ref x)]))) fa fvs := (tkS (Soft.ins hr5) (KeepE.put List.mem_cons_self)).seqT (t35.seqT (t03.seqT hfa))
    walk_at "st"
    have hr6 : (upd H5 r (.ins CR dx (putF "walkers" (.ref Lw) [("stroll", .ref x)]))) r = some (.ins CR dx [("stroll", V.ref x), ("walkers", V.ref Lw)]) := by rw [upd_same, recF1]
    have k6 : KeepE [r] H5 (upd H5 r (.ins CR dx (putF "walkers" (.ref Lw) [("stroll", .ref x)]))) := KeepE.put List.mem_cons_self
    generalize hH6 : upd H5 r (.ins CR dx (putF "walkers" (.ref Lw) [("stroll", .ref x)])) = H6 at *
    intro Lc nLc
    have s7 : Same H6 (upd H6 Lc (.lst [.int (fvs.length : Nat)])) := Same.new nLc
    have hc7 : (upd H6 Lc (.lst [.int (fvs.length : Nat)])) Lc = some (.lst [.int (fvs.length : Nat)]) := upd_same
    have hr7 := s7 _ _ hr6
    have nLcr : Lc ≠ r := (ne_of_none hr6 nLc).symm
    have hw6 : H6 Lw = some (.lst [wv]) := k6 _ _ (fun z => nLwr (List.mem_singleton.mp z)) hw5
    have nLcw : Lc ≠ Lw := (ne_of_none hw6 nLc).symm
    have hw7 := s7 _ _ hw6
    generalize hH7 : upd H6 Lc (.lst [.int (fvs.length : Nat)]) = H7 at *
    have l2 : ([("stroll", V.ref x), ("walkers", V.ref Lw)] : List (Str × V)).length < 1000 := by show 2 < 1000; decide
    have t57 : TK H5 H7 := (tkS (Soft.ins hr5) k6).trans (Same.tk s7)
    have t07 : TK H H7 := t03.trans (t35.trans t57)
    have hfa8 : SqT K (upd H7 r (.ins CR dx (putF "counts" (.ref Lc) [("stroll", .ref x), ("walkers", .ref Lw)]))) fa fvs := (tkS (Soft.ins hr7) (KeepE.put List.mem_cons_self)).seqT (t07.seqT hfa)
    walk_at "st"
    have hr8 : (upd H7 r (.ins CR dx (putF "counts" (.ref Lc) [("stroll", .ref x), ("walkers", .ref Lw)]))) r = some (.ins CR dx [("stroll", V.ref x), ("walkers", V.ref Lw), ("counts", V.ref Lc)]) := by rw [upd_same, recF2]
    have k8 : KeepE [r] H7 (upd H7 r (.ins CR dx (putF "counts" (.ref Lc) [("stroll", .ref x), ("walkers", .ref Lw)]))) := KeepE.put List.mem_cons_self
    generalize hH8 : upd H7 r (.ins CR dx (putF "counts" (.ref Lc) [("stroll", .ref x), ("walkers", .ref Lw)])) = H8 at *
    have t08 : TK H H8 := t07.trans (tkS (Soft.ins hr7) k8)
    have hw8 : H8 Lw = some (.lst [wv]) := k8 _ _ (fun z => nLwr (List.mem_singleton.mp z)) hw7
    have hc8 : H8 Lc = some (.lst [.int (fvs.length : Nat)]) := k8 _ _ (fun z => nLcr (List.mem_singleton.mp z)) hc7
    have kR : KeepE [r] H3 H8 := ((k4.trans (Same.keepE s5)).trans k6).trans ((Same.keepE s7).trans k8)
    have l3 : ([("stroll", V.ref x), ("walkers", V.ref Lw), ("counts", V.ref Lc)] : List (Str × V)).length < 1000 := by show 3 < 1000; decide
    clear hfa6 hfa8 hw5 hw6 hw7 hc7 hr4 hr5 hr6 hr7 k4 k6 k8 s5 s7 t35 t57 t07 hH4 hH5 hH6 hH7 hH8
    have hfa8 := t08.seqT hfa
    intro Dc nDc
    have hfvs8 := TpAll.mono t08 _ _ hfvs
    refine dcT_it (walk_tup (K := K) (a := fa) (xs := fvs)) (fun i H' => Ok (Same H8 H' ∧ ∃ hs : Hist, H' Dc = some (.dT (histK hs)) ∧ hs.map (fun e => (e.1, e.2.2)) = (Fl.take i).map (fun s => (s.pt, [((0 : Int), s.2.2)])) ∧ (∀ e ∈ hs, H8 e.2.1 = none ∧ ∃ us, H' e.2.1 = some (.lst us) ∧ TpAll K H' us (e.2.2.map scD)) ∧ (hs.map fun e => e.2.1).Nodup)) ⟨Same.new nDc, [], upd_same, rfl, fun e he => absurd he List.not_mem_nil, List.nodup_nil⟩ (fun i H' _ ⟨s, _⟩ => TK.seqT (Same.tk s) hfa8) ?_ ?_
    · rintro i y H9 H10 hi ⟨s9, hs, hD, ehs, hls, nda⟩ ⟨rfl, hy⟩
      obtain ⟨sq, hsF, hz⟩ := SqV.get hfvs8 hy
      have hz := Tp.mono (Same.tk s9) _ _ hz
      obtain ⟨sb, rfl, hsb⟩ := hz.int3
      have tk := take_more hsF
      walk_at "st"
      intro pk npk
      have s10 : Same H10 (upd H10 pk (.tup [.int sq.1, .int sq.2.1])) := Same.new npk
      have hpk : (upd H10 pk (.tup [.int sq.1, .int sq.2.1])) pk = some (.tup [.int sq.1, .int sq.2.1]) := upd_same
      generalize hH11 : upd H10 pk (.tup [.int sq.1, .int sq.2.1]) = H11 at *
      walk_at "st"
      intro pv npv
      have s11 : Same H11 (upd H11 pv (.tup [.int 0, .int sq.2.2])) := Same.new npv
      have hpv : Tp K (upd H11 pv (.tup [.int 0, .int sq.2.2])) (.ref pv) (scD (0, sq.2.2)) := Tp.of_ints (ks := [0, sq.2.2]) (SqT.of upd_same)
      generalize hH12 : upd H11 pv (.tup [.int 0, .int sq.2.2]) = H12 at *
      walk_at "st"
      intro l nl
      have s12 : Same H12 (upd H12 l (.lst [.ref pv])) := Same.new nl
      have hl12 : (upd H12 l (.lst [.ref pv])) l = some (.lst [.ref pv]) := upd_same
      have hpv12 := Tp.mono (Same.tk s12) _ _ hpv
      generalize hH13 : upd H12 l (.lst [.ref pv]) = H13 at *
      have s1013 := Same.trans s10 (Same.trans s11 s12)
      have hD13 := s1013 _ _ hD
      have hpk13 := Same.trans s11 s12 _ _ hpk
      have s913 := Same.trans s9 s1013
      have nl8 : H8 l = none := Same.back (Same.trans s9 (Same.trans s10 s11)) nl
      have lD : l ≠ Dc := ne_of hl12 hD13 (by intro z; cases z)
      have nin : sq.pt ∉ hs.map (·.1) := fun z => by
        have e1 : hs.map (·.1) = (Fl.take i).map Sq.pt := by
          have g := congrArg (List.map Prod.fst) ehs
          rw [List.map_map, List.map_map] at g
          exact g
        rw [e1] at z
        have nd2 : ((Fl.take (i + 1)).map Sq.pt).Nodup := List.pairwise_map.mpr ((asc.sublist (List.take_sublist (i + 1) Fl)).imp fun {a b} l => fun (e : a.pt = b.pt) => ltP_irr a.pt (by
          rw [← e] at l
          exact l))
        rw [tk, List.map_append] at nd2
        exact (List.nodup_append.mp nd2).2.2 _ z _ List.mem_cons_self rfl
      have hsz : (histK hs).length < sizeLine := by
        have g := congrArg List.length ehs
        rw [List.length_map, List.length_map, List.length_take] at g
        unfold histK
        rw [List.length_map]
        exact small1000 (by omega)
      have tu : TK H13 (upd H13 Dc (.dT (putK (histK hs) (ptK sq.pt) (.ref l)))) := tkS (Soft.dT hD13) (KeepE.put List.mem_cons_self)
      refine ⟨_, ptK sq.pt, pk, rfl, hpk13, hD13, hsz, Same.fresh s913 nDc, hs ++ [(sq.pt, l, [((0 : Int), sq.2.2)])], ?_, ?_, fun e he => ?_, ?_⟩
      · rw [upd_same, histK_snoc nin]
      · rw [tk, List.map_append, List.map_append, ehs]
        rfl
      · rcases List.mem_append.mp he with g | g
        · obtain ⟨g1, us, g2, g3⟩ := hls e g
          have g2' := s1013 _ _ g2
          exact ⟨g1, us, by rw [upd_ne (ne_of g2' hD13 (by intro z; cases z))]; exact g2', TpAll.mono ((Same.tk s1013).trans tu) _ _ g3⟩
        · rw [List.mem_singleton.mp g]
          exact ⟨nl8, [.ref pv], by rw [upd_ne lD]; exact hl12, .cons (Tp.mono tu _ _ hpv12) .nil⟩
      · rw [List.map_append]
        refine List.nodup_append.mpr ⟨nda, List.nodup_cons.mpr ⟨List.not_mem_nil, List.nodup_nil⟩, fun u hu v hv => ?_⟩
        rw [List.mem_singleton.mp hv]
        intro z
        obtain ⟨e, he, rfl⟩ := List.mem_map.mp hu
        obtain ⟨_, us, g2, _⟩ := hls e he
        have g3 := Same.trans s10 s11 _ _ g2
        rw [z] at g3
        exact absurd nl (by rw [g3]; intro q; cases q)
    · rintro H9 ⟨s9, hs, hD, ehs, hls, nda⟩
      rw [lfv, List.take_length] at ehs
      have hr9 := s9 _ _ hr8
      walk_at "st"
      have hr10 : (upd H9 r (.ins CR dx (putF "colours" (.ref Dc) [("stroll", .ref x), ("walkers", .ref Lw), ("counts", .ref Lc)]))) r = some (.ins CR dx (recF (.ref x) Lw Lc (.ref Dc))) := by rw [upd_same, recF3]
      have k10 : KeepE [r] H9 (upd H9 r (.ins CR dx (putF "colours" (.ref Dc) [("stroll", .ref x), ("walkers", .ref Lw), ("counts", .ref Lc)]))) := KeepE.put List.mem_cons_self
      have t10 : TK H9 (upd H9 r (.ins CR dx (putF "colours" (.ref Dc) [("stroll", .ref x), ("walkers", .ref Lw), ("counts", .ref Lc)]))) := tkS (Soft.ins hr9) k10
      generalize hH10 : upd H9 r (.ins CR dx (putF "colours" (.ref Dc) [("stroll", .ref x), ("walkers", .ref Lw), ("counts", .ref Lc)])) = H10 at *
      have kR10 : KeepE [r] H3 H10 := (kR.trans (Same.keepE s9)).trans k10
      have tR10 : TK H3 H10 := tkS (Soft.ins hr3) kR10
      have keep : ∀ {b : Addr} {o : HO}, b ≠ r → H9 b = some o → H10 b = some o := fun n e => k10 _ _ (fun z => n (List.mem_singleton.mp z)) e
      have hDr : Dc ≠ r := ne_of hD hr9 (by intro z; cases z)
      obtain ⟨⟨dx4, tv4, gv4, wv4, hx4, ht4, hw4, hgr4⟩, hD4, nd4, nz4⟩ := id hS
      have one : ∀ e ∈ hs, ∃ c : Int, e.2.2 = [(0, c)] := fun e he => by
        have g : (e.1, e.2.2) ∈ Fl.map (fun s => (s.pt, [((0 : Int), s.2.2)])) := by
          rw [← ehs]
          exact List.mem_map.mpr ⟨e, he, rfl⟩
        obtain ⟨sq, _, g⟩ := List.mem_map.mp g
        exact ⟨sq.2.2, (congrArg Prod.snd g).symm⟩
      have lhs : hs.length = Fl.length := by
        have g := congrArg List.length ehs
        rw [List.length_map, List.length_map] at g
        exact g
      refine q x D Dc Lw Lc hs H10 ⟨⟨dx, [wv], [.int (fvs.length : Nat)], hr10, keep nLwr (s9 _ _ hw8), ?_, keep nLcr (s9 _ _ hc8), rfl⟩, ⟨⟨dx4, tv4, gv4, wv4, kR10 _ _ (fun z => nxr (List.mem_singleton.mp z)) hx4, Tp.mono tR10 _ _ ht4, Tp.mono tR10 _ _ hw4, Tp.mono tR10 _ _ hgr4⟩, kR10 _ _ (fun z => nDr (List.mem_singleton.mp z)) hD4, nd4, nz4⟩, rfl, ⟨keep hDr hD, ?_, fun e he => ?_⟩, ⟨fun e he x hx => ?_, fun j y lj hy p => ?_⟩, nLcw.symm, fun e he => ?_, nda, ?_, ?_, fun e he => ?_, fun z => ?_⟩ ((Same.keepE s3).trans kR10)
      · exact .cons (Tp.mono ((t08.trans (Same.tk s9)).trans t10) _ _ hw) .nil
      · have e1 : hs.map (·.1) = Fl.map Sq.pt := by
          have g := congrArg (List.map Prod.fst) ehs
          rw [List.map_map, List.map_map] at g
          exact g
        rw [e1]
        exact List.pairwise_map.mpr (asc.imp fun {a b} l => fun (e : a.pt = b.pt) => ltP_irr a.pt (by
          rw [← e] at l
          exact l))
      · obtain ⟨_, us, g2, g3⟩ := hls e he
        exact ⟨us, keep (ne_of g2 hr9 (by intro z; cases z)) g2, TpAll.mono t10 _ _ g3⟩
      · obtain ⟨c, g⟩ := one e he
        rw [g] at hx
        rw [List.mem_singleton.mp hx]
        exact Int.le_refl _
      · obtain rfl : j = 0 := by omega
        obtain rfl := (Option.some.inj (show some (colF Fl, wk) = some y from hy)).symm
        exact lat_init ehs p
      · obtain ⟨g1, _⟩ := hls e he
        refine ⟨fun z => ?_, fun z => ?_⟩
        · rw [z, hw8] at g1
          cases g1
        · rw [z, hc8] at g1
          cases g1
      · unfold cellsOf
        rw [List.length_map]
        omega
      · omega
      · obtain ⟨c, g⟩ := one e he
        rw [g]
        exact Nat.le_refl _
      · have hD8 := kR _ _ (fun y => nDr (List.mem_singleton.mp y)) hD4
        rw [z, hD8] at nDc
        cases nDc
end

/-! ### lists that a zip cuts; sorted(d); d.setdefault for keys that are tuples; lcm -/
theorem for_zipS {K : PySem.W.Frag} {a b : Addr} {xs ys : List V} {g : TG} {tb : TS} {D : L2.Ends} {σ : L2.St} {H : Hp} (hl : ys.length ≤ xs.length) (Pv : Nat → L2.St → Hp → Prop) (h0 : Pv 0 σ H) (hq : ∀ i σ H, Pv i σ H → SqL K H a xs ∧ SqL K H b ys)
    (hs : ∀ (i : Nat) (x y : V) (T : Addr) (σ : L2.St) (H : Hp), xs[i]? = some x → ys[i]? = some y → Pv i σ H → H T = none → g (.ref T) σ (upd H T (.tup [x, y])) fun σ2 H2 => tb { D with nx := Pv (i + 1), ct := Pv (i + 1), bk := D.nx } σ2 H2) (hd : ∀ σ H, Pv ys.length σ H → D.nx σ H) :
    ∃ W : Nat → Nat → L2.St → Hp → Prop, (∃ m, W 0 m σ H) ∧ ∀ i m σ H, W i m σ H →
      ((Itz K a b).stop i H ∧ D.nx σ H) ∨ ((Itz K a b).go i H ∧ ∃ N : L2.St → Hp → Prop, (∀ σ' H', N σ' H' → ∃ m', m' < m ∧ W (i + 1) m' σ' H') ∧ ∀ v H', (Itz K a b).yld i H v H' → g v σ H' fun σ2 H2 => tb { D with nx := N, ct := N, bk := D.nx } σ2 H2) := by
  refine ⟨fun i m σ H => m = ys.length - i ∧ i ≤ ys.length ∧ Pv i σ H, ⟨ys.length, rfl, Nat.zero_le _, h0⟩, ?_⟩
  rintro i m σ H ⟨rfl, hi, p⟩
  obtain ⟨qx, qy⟩ := hq i σ H p
  by_cases hlt : i < ys.length
  · have hx : xs[i]? = some xs[i] := List.getElem?_eq_getElem (by omega)
    have hy : ys[i]? = some ys[i] := List.getElem?_eq_getElem hlt
    refine .inr ⟨⟨xs, ys, _, _, qx, qy, hx, hy⟩, Pv (i + 1), fun σ' H' p' => ⟨ys.length - (i + 1), by omega, rfl, hlt, p'⟩, fun v H' y => ?_⟩
    obtain ⟨T, x', y', rfl, hT, rfl, f1, f2⟩ := y
    exact hs i x' y' T σ H (f1 xs qx) (f2 ys qy) p hT
  · have e : i = ys.length := by omega
    subst e
    exact .inl ⟨⟨xs, ys, qx, qy, Or.inr (Nat.le_refl _)⟩, hd σ H p⟩
section
variable {X : Cx}
def rSetdT : V → List V → Hp → VK → Prop := fun x xs H Q => ∃ (a : Addr) (kvs : List (List Key × V)) (k : List Key) (b : Addr) (d : V), x = .ref a ∧ xs = [.ref b, d] ∧ H a = some (.dT kvs) ∧ H b = some (.tup (k.map kV)) ∧ kvs.length < sizeLine ∧
  (∀ v, valV kvs k = some v → Q v H) ∧ (valV kvs k = none → Q d (upd H a (.dT (putK kvs k d))))
theorem mt_setdT (hu : X.A.units + 1 < cLine) : MtR X "dict.setdefault" rSetdT := by
  intro pins s σ H x xs v us Q I rx rxs h
  obtain ⟨a, kvs, k, b, d, rfl, rfl, ha, hb, hl, q1, q2⟩ := h
  cases rx
  obtain ⟨u1, u2, rfl, r1, r2⟩ := vals2 rxs
  cases r1
  obtain ⟨z, hd, xs', rel, dd⟩ := dt_of I.hok ha
  have hz : xs'.length ≤ sizeLine := by rw [← Paired.length rel]; exact z
  have hl2 : (putK kvs k d).length ≤ sizeLine := by
    have := length_putK kvs k d
    omega
  refine call_setdefault_heap (knd := tupleKind (mixKind X.prog X.w)) (k := k) (tupleKind_room_in1 hu) (key_of I.hok hb) hd dd (fun p hp => ?_) (fun hn h' dd' sb => ?_) hz
  · have r := rel.val k
    rw [hp] at r
    obtain ⟨v0, ev, rv⟩ : ∃ v0, valV kvs k = some v0 ∧ RelV v0 p.2 := by
      cases ev : valV kvs k with
      | none =>
        rw [ev] at r
        exact (show False from r).elim
      | some v0 =>
        rw [ev] at r
        exact ⟨v0, rfl, r⟩
    exact ⟨v0, H, I.tok _, rv, q1 v0 ev⟩
  · have r := rel.val k
    rw [hn] at r
    have e : valV kvs k = none := by
      cases ev : valV kvs k with
      | none => rfl
      | some v0 =>
        rw [ev] at r
        exact (show False from r).elim
    obtain ⟨o2, es, ep, g2, c2, t2, e2, _, n2⟩ := dd'
    refine ⟨d, upd H a (.dT (putK kvs k d)), d_write (t' := s.toks + (tupleKind (mixKind X.prog X.w)).draws k) I (by rw [ha]; trivial) sb ⟨o2, g2⟩ ⟨hl2, hd, _, (rel.put k hb r2).keeps fun c ys ec => ?_, o2, es, ep, g2, c2, t2, e2, n2⟩, r2, q2 e⟩
    exact (upd_ne (ne_of ec ha (fun z => nomatch z))).trans ec
/-- sorted(d) of a dict, its keys ints, any number of them -/
def rSortedDI : List V → Hp → VK → Prop := fun xs H Q => ∃ (a : Addr) (kvs : List (Key × V)) (ks : List Int), xs = [.ref a] ∧ H a = some (.dK kvs) ∧ kvs.map (·.1) = ks.map Sum.inl ∧
  ∀ (ys : List Int) (p : Addr), ys.Perm ks → ys.Pairwise (· ≤ ·) → H p = none → Q (.ref p) (upd H p (.lst (ys.map V.int)))
theorem cr_sortedDI (hcalm : X.calm = true) : CallR X (.builtin "sorted") rSortedDI := by
  intro pins s σ H xs us Q I r q
  obtain ⟨a, kvs, ks, ex, hd, hks, q⟩ := q
  subst ex
  obtain ⟨u, eu, rx⟩ := vals1 r
  subst eu
  cases rx
  obtain ⟨z, lo, vs, rel, dd⟩ := dk_of I.hok hd
  obtain ⟨ep, hat⟩ := dd.dictAt
  have hkeys : vs.map (·.1) = ks.map Sum.inl := rel.keys.symm.trans hks
  have hl : vs.length = ks.length := by
    have e := congrArg List.length hkeys
    rw [List.length_map, List.length_map] at e
    exact e
  have h16 : vs.length ≤ sizeLine := by
    rw [← rel.length]
    exact z
  refine Calls.call_function_entry PyProof.Rows.kind_sorted PyProof.Rows.plain_sorted PyProof.Rows.entry_sorted (PyProof.Rows.args_sorted1 _) ?_
  unfold Builtin.«sorted»
  refine wpAny_bind (m := checkCount "sorted" 1 1 _) (wpAny_pure ?_)
  refine wpAny_bind (PySem.W.kdu_collect (A := X.A.in1) (PySem.W.kdl_dict (knd := mixKind X.prog X.w) (kvs := vs) (ep := ep) lo) (I.ok.hd hcalm) hat h16 fun h' tk acc hk hacc => ?_)
  have hal : acc.toList.length = ks.length := by rw [Array.length_toList, hacc.1, hl]
  have hS : IntsAre acc.toList ks := ints_each hal fun j v e => by
    obtain ⟨k, x, e1, e2⟩ := hacc.2 j v (by rw [← Array.getElem?_toList]; exact e)
    have e3 : (vs.map (·.1))[j]? = some k := by rw [List.getElem?_map, e1]; rfl
    rw [hkeys, List.getElem?_map] at e3
    cases e4 : ks[j]? with
    | none => rw [e4] at e3; cases e3
    | some y =>
      rw [e4] at e3
      have e5 : Sum.inl y = k := Option.some.inj e3
      subst e5
      rcases keyIs_shape (show keyIs (Sum.inl y) v = true from e2) with ⟨i, t, ek, ev⟩ | ⟨z, t, ek, ev⟩
      · cases ek
        exact ⟨y, t, rfl, ev⟩
      · cases ek
  have I1 : Inv X pins σ H { s with heap := h', toks := tk } := I.kept hk
  have hz2 : acc.toList.length ≤ sizeLine := by rw [hal, ← hl]; exact h16
  refine wpAny_bind (wpAny_newList ?_ hz2)
  have hoL : (h'.push (seqObj "list" acc.toList.toArray 0)).get? h'.objs.size = some (seqObj "list" acc.toList.toArray 0) := Heap.get?_push_size _ rfl
  show wpAny _ _ _ _ _ { s with heap := h'.push (seqObj "list" acc.toList.toArray 0), toks := tk }
  refine wpAny_bind (wpAny_holding (wpAny_call_entry PyProof.Rows.slot_list_sort ⟨_, hoL, rfl⟩ PyProof.Rows.entry_list_sort
    (SrtO.list_sort_ord SrtO.swo_int hoL hz2 (fun h2 => SrtO.ints_sortable hS h2) fun out h1 h2 => ⟨_, rfl, ?_⟩) (PyProof.Rows.args_list_sort _)))
  obtain ⟨k1, k2, k3⟩ := SrtO.ints_out hS h1 h2
  obtain ⟨e', he'⟩ := PyProof.Rows.sortedHeap_at (vs := acc.toList) (out := out.toArray) hoL
  have hlen : ((out.map SrtO.iv).map V.int).length ≤ sizeLine := by
    rw [List.length_map, k2.length_eq, ← hal]
    exact hz2
  have hf : H h'.objs.size = none := I1.hok.fresh (Nat.le_refl _)
  refine wpAny_pure ⟨_, rfl, .ref h'.objs.size, upd H h'.objs.size (.lst ((out.map SrtO.iv).map V.int)), I1.laid (t' := tk) (fun b u e => ?_) (Nat.le_refl _) ⟨hlen, out, e', vals_of_ints k1, he'⟩, rfl, q _ _ k2 k3 hf⟩
  have hb : b < h'.objs.size := Heap.lt_size e
  rw [PyProof.Rows.sortedHeap_old (Nat.ne_of_lt hb) (by rw [size_push']; exact Nat.lt_succ_of_lt hb)]
  exact Heap.get?_push_of_some _ e
/-- math.lcm -/
def CLcm (a b : Int) : Prop := a.natAbs < 2 ^ 31 ∧ b.natAbs < 2 ^ 31
def rLcm : List V → Hp → VK → Prop := fun vs H Q => ∃ a b : Int, vs = [.int a, .int b] ∧ CLcm a b ∧ ∀ c : Int, c = (((Nat.lcm 1 a.natAbs).lcm b.natAbs : Nat) : Int) → Q (.int c) H
theorem cr_lcm : CallR X (.builtin "math.lcm") rLcm := by
  intro pins s σ H vs us Q I r h
  obtain ⟨a, b, rfl, ⟨ha, hb⟩, q⟩ := h
  obtain ⟨t, u, rfl⟩ := Vals.int2 r
  have e31 : (2 : Nat) ^ 31 < 2 ^ 64 := by decide
  refine PySem.W.mg_lcm (by omega) (by omega) ?_ ⟨.int _, H, I.tok _, ⟨_, rfl⟩, q _ rfl⟩
  have h1 : (Nat.lcm 1 a.natAbs).lcm b.natAbs ≤ a.natAbs * b.natAbs := by
    rw [Nat.lcm_one_left]
    unfold Nat.lcm
    exact Nat.div_le_self _ _
  have h2 : a.natAbs * b.natAbs < 2 ^ 62 := by
    have := Nat.mul_lt_mul'' ha hb
    have e : (2 : Nat) ^ 31 * 2 ^ 31 = 2 ^ 62 := by decide
    omega
  have h3 : ((((Nat.lcm 1 a.natAbs).lcm b.natAbs : Nat) : Int)).natAbs = (Nat.lcm 1 a.natAbs).lcm b.natAbs := rfl
  rw [h3]
  have h4 : ((Nat.lcm 1 a.natAbs).lcm b.natAbs).log2 ≤ 62 := PySem.W.mg_log (by omega)
  have e : bitsLine = 134217728 := by decide
  omega
end
theorem k_zip {K : PySem.W.Frag} {X : Cx} {e e2 : Expr} {ta : TA} {p pos tpos : Pos} {elts : List Expr} {kk : Nat} (hg : Gl X "zip") (hm : X.mg "zip" = none) (ha : PA X [e, e2] ta)
    (hs : starEach [e, e2] X.env = (false, eval e X.env) :: starEach [e2] X.env := by rfl) (hpl : (backTo pos (starEach [e2] X.env)).any (·.1) = false := by rfl) (hK : X.K = K := by rfl) :
    PI X (.Tuple elts kk tpos) (.Call (.Name "zip" p) [e, e2] [] pos) (RZ.iZipA K ta) := hK ▸ RZ.pi_zipA hg hm ha hs hpl

/-! ### Record.lasts -/
/-- the walkers behind the first step are tuples that are known -/
def TrkL (H : Hp) (us : List V) (T : List (List Ent)) (z0 : WSt) : Prop := ∀ k u, us[k + 1]? = some u → Trk H u ((runW T (k + 1) z0).getD z0).2
theorem TrkL.mono {H H' : Hp} {us : List V} {T : List (List Ent)} {z0 : WSt} (h : TrkL H us T z0) (t : TK H H') : TrkL H' us T z0 := fun k u e => (h k u e).mono t
def TrkR (H : Hp) (wl : Addr) (T : List (List Ent)) (z0 : WSt) : Prop := ∃ us, H wl = some (.lst us) ∧ TrkL H us T z0
def recE (a D Dc wl cl : Addr) (hs : Hist) : List Addr := [a, D, Dc, wl, cl] ++ hs.map fun e => e.2.1
def spLasts (K : PySem.W.Frag) (CR CS : Addr) : Sp := fun vs H Q _ => ∃ (r a D Dc wl cl : Addr) (T : List (List Ent)) (z0 : WSt) (n : Nat) (m : CM) (w : Wk) (hs : Hist) (c nn : Nat) (B step : Int), vs = [.ref r, .int step] ∧ RecAt K CR CS H r a D Dc wl cl T z0 n m w hs ∧ TrkR H wl T z0 ∧ TabOk c nn T ∧ Fit c nn B z0 ∧ 0 ≤ step ∧ step ≤ 800 ∧ (n : Int) ≤ step ∧
  ∀ (b : Bool) (n' : Nat) (m' : CM) (w' : Wk) (hs' : Hist) H', RecAt K CR CS H' r a D Dc wl cl T z0 n' m' w' hs' → TrkR H' wl T z0 → ((b = true ∧ (n' : Int) = step) ∨ (b = false ∧ (n' : Int) < step ∧ stepW T (col m', w') = none)) → KeepE (recE a D Dc wl cl hs) H H' → Q (.bl b) H'
theorem RecAt.wl {K : PySem.W.Frag} {CR CS : Addr} {H : Hp} {r a D Dc wl cl : Addr} {T : List (List Ent)} {z0 : WSt} {n : Nat} {m : CM} {w : Wk} {hs : Hist} (h : RecAt K CR CS H r a D Dc wl cl T z0 n m w hs) : WlAt K CR H r (wls T z0 (n + 1)) := by
  obtain ⟨dx, us, uc, h1, h2, h3, h4, h5⟩ := h.ob
  exact ⟨dx, .ref a, wl, cl, .ref Dc, us, h1, h2, h3⟩
theorem wls_lenA (T : List (List Ent)) (z0 : WSt) (k : Nat) : (wls T z0 k).length = k := by
  unfold wls
  rw [List.length_map, List.length_range]
theorem RecAt.strKeep {K : PySem.W.Frag} {CR CS : Addr} {H H' : Hp} {r a D Dc wl cl : Addr} {T : List (List Ent)} {z0 : WSt} {n : Nat} {m : CM} {w : Wk} {hs : Hist} (h : RecAt K CR CS H r a D Dc wl cl T z0 n m w hs) (k : KeepE [a, D] H H') (t : TK H H') {m' : CM} {w' : Wk} (hS : StrAt K CS H' a D T m' w') (ec : (col m, w) = (col m', w')) (lm : m'.length ≤ m.length) : RecAt K CR CS H' r a D Dc wl cl T z0 n m' w' hs := by
  obtain ⟨dx, us, uc, h1, h2, h3, h4, h5⟩ := h.ob
  obtain ⟨dxs, tv, gv, wv, hx, _⟩ := h.str.ob
  have hD := h.str.dc
  have ra : r ≠ a := fun z => by
    rw [z, hx] at h1
    injection h1 with h1
    injection h1 with _ _ h1
    have g : ("table" : Str) = "stroll" := congrArg Prod.fst (List.cons.inj h1).1
    exact absurd g (by decide +kernel)
  have keep : ∀ {b : Addr} {o : HO}, b ≠ a → b ≠ D → H b = some o → H' b = some o := fun n1 n2 e => k _ _ (fun z => by
    rcases List.mem_cons.mp z with z | z
    · exact n1 z
    · exact n2 (List.mem_singleton.mp z)) e
  have lk : ∀ {b : Addr} {us : List V}, H b = some (.lst us) → H' b = some (.lst us) := fun e => keep (ne_of e hx (by intro z; cases z)) (ne_of e hD (by intro z; cases z)) e
  refine ⟨⟨dx, us, uc, keep ra (ne_of h1 hD (by intro z; cases z)) h1, lk h2, TpAll.mono t _ _ h3, lk h4, h5⟩, hS, ec ▸ h.run, ⟨keep (ne_of h.his.dc hx (by intro z; cases z)) h.dd h.his.dc, h.his.nd, fun e he => ?_⟩, h.ok, h.wc, h.ne, h.nda, Nat.le_trans lm h.lm, h.lh, h.ll, h.dd⟩
  obtain ⟨us, g1, g2⟩ := h.his.ls e he
  exact ⟨us, lk g1, TpAll.mono t _ _ g2⟩
theorem RecAt.raw {K : PySem.W.Frag} {CR CS : Addr} {H H' : Hp} {r a D Dc wl cl : Addr} {T : List (List Ent)} {z0 : WSt} {n : Nat} {m : CM} {w : Wk} {hs : Hist} (h : RecAt K CR CS H r a D Dc wl cl T z0 n m w hs) (k : KeepE [a, D] H H') (t : TK H H') : ∃ dx us uc, H' r = some (.ins CR dx (recF (.ref a) wl cl (.ref Dc))) ∧ H' wl = some (.lst us) ∧ TpAll K H' us ((wls T z0 (n + 1)).map wkD) ∧ H' cl = some (.lst uc) ∧ uc.length = n + 1 ∧ us.length = n + 1 ∧ HistAt K H' Dc hs ∧ r ≠ a := by
  obtain ⟨dx, us, uc, h1, h2, h3, h4, h5⟩ := h.ob
  obtain ⟨dxs, tv, gv, wv, hx, _⟩ := h.str.ob
  have hD := h.str.dc
  have ra : r ≠ a := fun z => by
    rw [z, hx] at h1
    injection h1 with h1
    injection h1 with _ _ h1
    have g : ("table" : Str) = "stroll" := congrArg Prod.fst (List.cons.inj h1).1
    exact absurd g (by decide +kernel)
  have keep : ∀ {b : Addr} {o : HO}, b ≠ a → b ≠ D → H b = some o → H' b = some o := fun n1 n2 e => k _ _ (fun z => by
    rcases List.mem_cons.mp z with z | z
    · exact n1 z
    · exact n2 (List.mem_singleton.mp z)) e
  have lk : ∀ {b : Addr} {us : List V}, H b = some (.lst us) → H' b = some (.lst us) := fun e => keep (ne_of e hx (by intro z; cases z)) (ne_of e hD (by intro z; cases z)) e
  refine ⟨dx, us, uc, keep ra (ne_of h1 hD (by intro z; cases z)) h1, lk h2, TpAll.mono t _ _ h3, lk h4, h5, ?_, ⟨keep (ne_of h.his.dc hx (by intro z; cases z)) h.dd h.his.dc, h.his.nd, fun e he => ?_⟩, ra⟩
  · have g := TpAll.length h3
    rw [List.length_map, wls_lenA] at g
    exact g
  · obtain ⟨us, g1, g2⟩ := h.his.ls e he
    exact ⟨us, lk g1, TpAll.mono t _ _ g2⟩
theorem RecAt.next {K : PySem.W.Frag} {CR CS : Addr} {H H' : Hp} {r a D Dc wl cl l dx : Addr} {T : List (List Ent)} {z0 : WSt} {n : Nat} {m m2 : CM} {w w2 : Wk} {hs : Hist} {us uc : List V} {e : Int × Int × Int} (R : RecAt K CR CS H r a D Dc wl cl T z0 n m w hs)
    (hr : H' r = some (.ins CR dx (recF (.ref a) wl cl (.ref Dc)))) (hwl : H' wl = some (.lst us)) (hus : TpAll K H' us ((wls T z0 (n + 2)).map wkD)) (hcl : H' cl = some (.lst uc)) (luc : uc.length = n + 2) (str : StrAt K CS H' a D T m2 w2)
    (he : entAt T w.2.2.2 (col m (wPt w)) = some e) (hz : (col m2, w2) = (dab (col m) (wPt w) e.1, behind w e)) (lm : m2.length ≤ m.length + 1) (dc : H' Dc = some (.dT (histK (histPut hs (wPt w) l (((n + 1 : Nat) : Int), e.1)))))
    (ls : ∀ e' ∈ histPut hs (wPt w) l (((n + 1 : Nat) : Int), e.1), ∃ us, H' e'.2.1 = some (.lst us) ∧ TpAll K H' us (e'.2.2.map scD)) (nl : wPt w ∉ hs.map (·.1) → l ≠ wl ∧ l ≠ cl ∧ ∀ e ∈ hs, e.2.1 ≠ l) :
    RecAt K CR CS H' r a D Dc wl cl T z0 (n + 1) m2 w2 (histPut hs (wPt w) l (((n + 1 : Nat) : Int), e.1)) := by
  have run : runW T (n + 1) z0 = some (col m2, w2) := by
    show (runW T n z0).bind (stepW T) = _
    rw [R.run, hz]
    exact step_some (z := (col m, w)) he
  have ok := R.ok.step R.run (y := (col m, w)) he l
  by_cases c : wPt w ∈ hs.map (·.1)
  · have adr := histPut_adr (a := l) (x := (((n + 1 : Nat) : Int), e.1)) c
    have keys := histPut_keys hs (wPt w) l (((n + 1 : Nat) : Int), e.1)
    rw [if_pos c] at keys
    have len : (histPut hs (wPt w) l (((n + 1 : Nat) : Int), e.1)).length = hs.length := by
      have g := congrArg List.length keys
      rw [List.length_map, List.length_map] at g
      exact g
    refine ⟨⟨dx, us, uc, hr, hwl, hus, hcl, luc⟩, str, run, ⟨dc, by rw [keys]; exact R.his.nd, ls⟩, ok, R.wc, fun e' he' => ?_, by rw [adr]; exact R.nda, by have := R.lm; omega, by have := R.lh; omega, fun e' he' => ?_, R.dd⟩
    · have g : e'.2.1 ∈ hs.map fun e => e.2.1 := by
        rw [← adr]
        exact List.mem_map.mpr ⟨e', he', rfl⟩
      obtain ⟨e0, h0, g⟩ := List.mem_map.mp g
      rw [← g]
      exact R.ne e0 h0
    · rcases histPut_mem he' with g | g | ⟨e0, g1, g2, g3⟩
      · have := R.ll _ g
        omega
      · rw [g]
        show 1 ≤ _
        omega
      · rw [g3, List.length_append]
        have := R.ll _ g1
        show e0.2.2.length + 1 ≤ _
        omega
  · have eq := histPut_new (a := l) (x := (((n + 1 : Nat) : Int), e.1)) c
    obtain ⟨nl1, nl2, nl3⟩ := nl c
    have keys := histPut_keys hs (wPt w) l (((n + 1 : Nat) : Int), e.1)
    rw [if_neg c] at keys
    refine ⟨⟨dx, us, uc, hr, hwl, hus, hcl, luc⟩, str, run, ⟨dc, ?_, ls⟩, ok, R.wc, fun e' he' => ?_, ?_, by have := R.lm; omega, ?_, fun e' he' => ?_, R.dd⟩
    · rw [keys]
      exact List.nodup_append.mpr ⟨R.his.nd, List.nodup_cons.mpr ⟨List.not_mem_nil, List.nodup_nil⟩, fun u hu v hv => by
        rw [List.mem_singleton.mp hv]
        exact fun z => c (z ▸ hu)⟩
    · rw [eq] at he'
      rcases List.mem_append.mp he' with g | g
      · exact R.ne _ g
      · rw [List.mem_singleton.mp g]
        exact ⟨nl1, nl2⟩
    · rw [eq, List.map_append]
      exact List.nodup_append.mpr ⟨R.nda, List.nodup_cons.mpr ⟨List.not_mem_nil, List.nodup_nil⟩, fun u hu v hv => by
        rw [List.mem_singleton.mp hv]
        obtain ⟨e0, h0, rfl⟩ := List.mem_map.mp hu
        exact nl3 e0 h0⟩
    · rw [eq, List.length_append]
      have := R.lh
      show hs.length + 1 ≤ _
      omega
    · rw [eq] at he'
      rcases List.mem_append.mp he' with g | g
      · have := R.ll _ g
        omega
      · rw [List.mem_singleton.mp g]
        show 1 ≤ _
        omega
theorem nd_inj {α β : Type} {f : α → β} : ∀ {l : List α}, (l.map f).Nodup → ∀ {a b : α}, a ∈ l → b ∈ l → f a = f b → a = b
  | [], _, _, _, h, _, _ => absurd h List.not_mem_nil
  | x :: l, nd, a, b, ha, hb, e => by
    obtain ⟨n1, n2⟩ := List.nodup_cons.mp (show (f x :: l.map f).Nodup from nd)
    rcases List.mem_cons.mp ha with h1 | h1
    · rcases List.mem_cons.mp hb with h2 | h2
      · rw [h1, h2]
      · exact absurd (by rw [← h1, e]; exact List.mem_map.mpr ⟨b, h2, rfl⟩) n1
    · rcases List.mem_cons.mp hb with h2 | h2
      · exact absurd (by rw [← h2, ← e]; exact List.mem_map.mpr ⟨a, h1, rfl⟩) n1
      · exact nd_inj n2 h1 h2 e
theorem wls_len (T : List (List Ent)) (z0 : WSt) (k : Nat) : (wls T z0 k).length = k := by
  unfold wls
  rw [List.length_map, List.length_range]
theorem rlkS {sv cv : V} {wl cl : Addr} : (recF sv wl cl cv).lookup ("stroll" : Str) = some sv := by
  simp only [List.lookup_cons, beq_self_eq_true]
theorem rlkT {sv cv : V} {wl cl : Addr} : (recF sv wl cl cv).lookup ("counts" : Str) = some (.ref cl) := by
  simp only [List.lookup_cons, beq_self_eq_true, show (("counts" : Str) == "stroll") = false by decide +kernel, show (("counts" : Str) == "walkers") = false by decide +kernel]
section
variable {P : Program} {w : World} {K : PySem.W.Frag} {mg : Str → Option Value} {base : Heap}
local macro_rules | `(tactic| walk_at "cl") => `(tactic| first | (refine le_only ?_; omega) | (refine lt_only ?_; omega))
theorem ok_Record_lasts (T : Txt K mg) {CR CS : Addr} (S : ClsR K mg CR) (SS : ClsS K mg CS) (RL : MCal P w K mg base CR "length" 1 ["self"] (spRLen K CR)) (MG : MCal P w K mg base CS "go" 3 ["self", "many"] (spGo2 K CS)) (M : MetAt K CR "lasts" "Record.lasts" s_Record_lasts ["self", "step"]) : MCal P w K mg base CR "lasts" 4 ["self", "step"] (spLasts K CR CS) := by
  obtain ⟨f, fd, me, F, b⟩ := M.meth
  refine ⟨f, fd, me, F.ok sc_Record_lasts (fun vs H Q E h => ?_) (fun cdv A outer s H vs Q E hr h => ?_), b⟩
  · obtain ⟨r, a, D, Dc, wl, cl, Tb, z0, n, m, wk, hs, c, nn, B, step, rfl, _⟩ := h
    rfl
  · obtain ⟨r, a, D, Dc, wl, cl, Tb, z0, n, m, wk, hs, c, nn, B, step, rfl, hR, hTR, tab, fit, st0, st1, nst, q⟩ := h
    refine ⟨_, (pss_cons (ps_while PassesOwn.never (pt_cmpR op_lt (pe_ownM0 RL S.cl hr (by decide) (pv 0)) (pv 1) (nomark _)) (pss_cons (ps_set (i := 2) sc_Record_lasts.nd rfl (Or.inl rfl) (pe_ownM MG SS.cl hr (by decide) (k_fld (K := K) (pv 0) (by rfl)) (pa_cons pe_int pa_nil)))
      (pss_cons (ps_if (pt_not (pt_truth (pv 2) (by intro _; rfl))) (pss_one (ps_ret pe_bl)) pss_nil)
      (pss_cons (ps_asg (pe_ix (k_ix_list (K := K)) (pv 2) pe_int (fun _ _ => rfl)) (pg_tup (by rfl) (pgs_cons (pg_name (i := 3) sc_Record_lasts.nd rfl (Or.inl rfl)) (pgs_cons (pg_name (i := 4) sc_Record_lasts.nd rfl (Or.inl rfl)) (pgs_cons (pg_name (i := 5) sc_Record_lasts.nd rfl (Or.inl rfl)) pgs_nil)))))
      (pss_cons (ps_expr (pe_bm PySem.F.plainAttrs_list PySem.F.slot_list_append PySem.F.type_list_append mt_append (k_fld (K := K) (pv 0) (by rfl)) (pa_cons (k_fld (K := K) (k_fld (K := K) (pv 0) (by rfl)) (by rfl)) pa_nil)))
      (pss_cons (ps_expr (pe_bm PySem.F.plainAttrs_list PySem.F.slot_list_append PySem.F.type_list_append mt_append (k_fld (K := K) (pv 0) (by rfl)) (pa_cons (pe_callB call_len_dT (by rfl) T.m_len (by decide +kernel) (pa_cons (k_fld (K := K) (k_fld (K := K) (pv 0) (by rfl)) (by rfl)) pa_nil)) pa_nil)))
      (pss_one (ps_expr (pe_bm PySem.F.plainAttrs_list PySem.F.slot_list_append PySem.F.type_list_append mt_append (pe_bm PySem.F.plainAttrs_dict PySem.F.slot_dict_setdefault PySem.F.type_dict_setdefault (mt_setdT (hu_of hr)) (k_fld (K := K) (pv 0) (by rfl)) (pa_cons (pe_slice (k_sl_tup (K := K)) (pv 3) po_none (po_some pe_int)) (pa_cons (pe_lst pa_nil) pa_nil))) (pa_cons (pe_tup (pa_cons (pe_ownM0 RL S.cl hr (by decide) (pv 0)) (pa_cons (pv 5) pa_nil))) pa_nil))))))))))
      (pss_one (ps_ret pe_bl))), ?_⟩
    have cl1 := S.cl
    have nS := S.nS
    have nWs := S.nWs
    have nCt := S.nCt
    have nCo := S.nCo
    have clS := SS.cl
    have nP := SS.nP
    have nW := SS.nW
    rw [show L2.start ["self", "step", "told", "walker", "_", "paint"] [V.ref r, V.int step] = [some (.ref r), some (.int step), none, none, none, none] from rfl]
    refine while_by (fun σ H1 => ∃ (y2 y3 y4 y5 : Option V) (n' : Nat) (m' : CM) (w' : Wk) (hs' : Hist), σ = [some (.ref r), some (.int step), y2, y3, y4, y5] ∧ RecAt K CR CS H1 r a D Dc wl cl Tb z0 n' m' w' hs' ∧ TrkR H1 wl Tb z0 ∧ (n' : Int) ≤ step ∧ KeepE (recE a D Dc wl cl hs) H H1 ∧ ∀ e ∈ hs', (e.2.1 ∈ hs.map fun e => e.2.1) ∨ H e.2.1 = none) (fun (_ : L2.St) (H1 : Hp) => match H1 wl with | some (.lst us) => step.toNat + 1 - us.length | _ => 0) ?_ ?_ ?_
    · exact ⟨_, _, _, _, n, m, wk, hs, rfl, hR, hTR, nst, KeepE.refl _ _, fun e he => .inl (List.mem_map.mpr ⟨e, he, rfl⟩)⟩
    · rintro σ H1 ⟨y2, y3, y4, y5, n1, m1, w1, hs1, rfl, R1, R1T, l1, kp, hfr⟩
      have hW1 := R1.wl
      obtain ⟨dx, us1, uc1, hr1, hwl1, hus1, hcl1, lcl1⟩ := id R1.ob
      have lus1 : us1.length = n1 + 1 := by
        have g := TpAll.length hus1
        rw [List.length_map, wls_lenA] at g
        exact g
      have noL : (recF (.ref a) wl cl (.ref Dc)).lookup ("length" : Str) = none := rno (by decide +kernel)
      walk_at "st"
      rw [wls_len]
      refine ite2 (fun e => ?_) (fun e => ?_)
      · have e : ((n1 + 1 : Nat) : Int) - 1 < step := of_decide_eq_true e
        have fS : (recF (.ref a) wl cl (.ref Dc)).lookup ("stroll" : Str) = some (.ref a) := rlkS
        have str1 := R1.str
        obtain ⟨⟨dxs, tv, gv, wv, hxa, htv, hwv, hgv⟩, hD1, nd1, nz1⟩ := id str1
        have noG : (strF tv gv D wv).lookup ("go" : Str) = none := lkNo _ _ _ _ (by decide +kernel)
        have fit1 : Fit c nn (B + n1) (col m1, w1) := fit.run tab R1.run
        have lm1 := R1.lm
        have lm2 : (m1.length : Int) + 1 ≤ 3000 := by omega
        walk_at "st"
        intro L vs' i m2 w2 H2 nL he hS2 hml hL hvl k2 htl trk
        have t2 : TK H1 H2 := k2.tk str1.soft
        have kp2 : KeepE (recE a D Dc wl cl hs) H H2 := kp.trans (k2.mono fun b hb => List.mem_append_left _ (by
          rcases List.mem_cons.mp hb with h | h
          · rw [h]
            exact List.mem_cons_self
          · rw [List.mem_singleton.mp h]
            exact List.mem_cons_of_mem _ List.mem_cons_self))
        have i1 := he.le
        have i1 : i ≤ 1 := i1
        have hSL := SqL.of (K := K) hL
        rcases Nat.eq_zero_or_pos i with z | z
        · subst z
          obtain rfl : vs' = [] := List.length_eq_zero_iff.mp hvl
          have e0 : (col m1, w1) = (col m2, w2) := Option.some.inj he.run
          have R2 : RecAt K CR CS H2 r a D Dc wl cl Tb z0 n1 m2 w2 hs1 := R1.strKeep k2 t2 hS2 e0 hml
          have tv : TruV K (.ref L) H2 false := .inl ⟨_, hSL, rfl⟩
          have stop := he.stop
          have stop : stepW Tb (col m2, w2) = none := by
            rcases stop with g | g
            · have g : (0 : Nat) = 1 := g
              cases g
            · exact g
          walk_at "st"
          refine iteT ?_
          walk_at "st"
          obtain ⟨dxr, usr, ucr, _, hwr, _, _, _⟩ := id R2.ob
          have T2 : TrkR H2 wl Tb z0 := by
            obtain ⟨us', g1, g2⟩ := R1T
            have awl : wl ≠ a := ne_of g1 hxa (by intro z; cases z)
            have Dwl : wl ≠ D := ne_of g1 hD1 (by intro z; cases z)
            refine ⟨us', k2 _ _ (fun z => ?_) g1, g2.mono t2⟩
            rcases List.mem_cons.mp z with z | z
            · exact awl z
            · exact Dwl (List.mem_singleton.mp z)
          exact q false n1 m2 w2 hs1 H2 R2 T2 (.inr ⟨rfl, by omega, stop⟩) kp2
        · obtain rfl : i = 1 := by omega
          have hst : stepW Tb (col m1, w1) = some (col m2, w2) := he.run
          cases hent : entAt Tb w1.2.2.2 (col m1 (wPt w1)) with
          | none =>
            rw [step_none (z := (col m1, w1)) hent] at hst
            cases hst
          | some e3 =>
            rw [step_some (z := (col m1, w1)) hent] at hst
            have hst := Option.some.inj hst
            obtain ⟨v, rfl⟩ : ∃ v, vs' = [v] := by
              match vs', hvl with
              | [v], _ => exact ⟨v, rfl⟩
            rw [toldL_some (z := (col m1, w1)) (y := (col m1, w1)) (k := 0) rfl hent] at htl
            obtain ⟨v, _, e4, hv, _⟩ := htl.consI
            obtain ⟨e4, _⟩ := List.cons.inj e4
            subst e4
            obtain ⟨ta, zs, rfl, hta, hz⟩ := hv.tupI
            obtain ⟨v1, zs, rfl, hv1, hz⟩ := hz.consI
            obtain ⟨v2, zs, rfl, hv2, hz⟩ := hz.consI
            obtain ⟨v3, zs, rfl, hv3, hz⟩ := hz.consI
            obtain rfl := hz.nilI
            obtain rfl := hv2.intI
            obtain rfl := hv3.intI
            obtain ⟨wa, rfl, hwa⟩ := (show Tp K H2 v1 (.tuple [.int w1.1, .int w1.2.1, .int w1.2.2.1, .int w1.2.2.2]) from hv1).int4
            obtain ⟨dx2, us2, uc2, hr2, hwl2, hus2, hcl2, luc2, lus2, hh2, ra⟩ := R1.raw k2 t2
            have tv : TruV K (.ref L) H2 true := .inl ⟨_, hSL, rfl⟩
            obtain ⟨⟨dxs2, tv2, gv2, wv2, hxa2, htv2, hwv2, hgv2⟩, hD2, nd2, nz2⟩ := id hS2
            have run20 : runW Tb (n1 + 1) z0 = some (col m2, w2) := by
              show (runW Tb n1 z0).bind (stepW Tb) = _
              rw [R1.run]
              exact he.run
            have trk2 : TrkL H2 (us2 ++ [wv2]) Tb z0 := by
              obtain ⟨dxt, tvt, gvt, vt, e1, e2⟩ := trk Nat.one_pos
              rw [hxa2] at e1
              injection e1 with e1
              injection e1 with _ _ e1
              have e3 : wv2 = vt := congrArg Prod.snd (List.cons.inj (List.cons.inj (List.cons.inj (List.cons.inj e1).2).2).2).1
              subst e3
              obtain ⟨us', g1, g2⟩ := R1T
              have e4 : us' = us2 := by
                have z := k2 _ _ (fun z => ?_) g1
                · rw [hwl2] at z
                  injection z with z
                  injection z with z
                  exact z.symm
                · rcases List.mem_cons.mp z with z | z
                  · exact ne_of g1 hxa (by intro z; cases z) z
                  · exact ne_of g1 hD1 (by intro z; cases z) (List.mem_singleton.mp z)
              subst e4
              intro k u hk
              rcases Nat.lt_or_ge (k + 1) us'.length with g | g
              · rw [List.getElem?_append_left g] at hk
                exact (g2 k u hk).mono t2
              · rw [List.getElem?_append_right g, List.getElem?_singleton] at hk
                split at hk
                · have hk := Option.some.inj hk
                  subst hk
                  have ek : k = n1 := by omega
                  rw [ek, run20]
                  exact e2
                · cases hk
            have fW2 := lkW tv2 gv2 D wv2
            have fP2 := lkP tv2 gv2 D wv2
            have fT : (recF (.ref a) wl cl (.ref Dc)).lookup ("counts" : Str) = some (.ref cl) := rlkT
            have fWl : (recF (.ref a) wl cl (.ref Dc)).lookup ("walkers" : Str) = some (.ref wl) := rlkW
            have fC : (recF (.ref a) wl cl (.ref Dc)).lookup ("colours" : Str) = some (.ref Dc) := rlkC
            have sz1 : us2.length < sizeLine := small1000 (by omega)
            have sz2 : uc2.length < sizeLine := small1000 (by omega)
            have rwl : r ≠ wl := ne_of hr2 hwl2 (by intro z; cases z)
            have rcl : r ≠ cl := ne_of hr2 hcl2 (by intro z; cases z)
            have awl : a ≠ wl := ne_of hxa2 hwl2 (by intro z; cases z)
            have acl : a ≠ cl := ne_of hxa2 hcl2 (by intro z; cases z)
            have Dwl : D ≠ wl := ne_of hD2 hwl2 (by intro z; cases z)
            have Dcl : D ≠ cl := ne_of hD2 hcl2 (by intro z; cases z)
            have hr3 : (upd H2 wl (.lst (us2 ++ [wv2]))) r = some (.ins CR dx2 (recF (.ref a) wl cl (.ref Dc))) := by rw [upd_ne rwl]; exact hr2
            have hxa3 : (upd H2 wl (.lst (us2 ++ [wv2]))) a = some (.ins CS dxs2 (strF tv2 gv2 D wv2)) := by rw [upd_ne awl]; exact hxa2
            have hD3 : (upd H2 wl (.lst (us2 ++ [wv2]))) D = some (.dT (cellK m2)) := by rw [upd_ne Dwl]; exact hD2
            have hcl3 : (upd H2 wl (.lst (us2 ++ [wv2]))) cl = some (.lst uc2) := by rw [upd_ne R1.wc.symm]; exact hcl2
            have t3 : TK H2 (upd H2 wl (.lst (us2 ++ [wv2]))) := TK.lst hwl2
            have hr4 : (upd (upd H2 wl (.lst (us2 ++ [wv2]))) cl (.lst (uc2 ++ [.int ((cellK m2).length : Nat)]))) r = some (.ins CR dx2 (recF (.ref a) wl cl (.ref Dc))) := by rw [upd_ne rcl]; exact hr3
            have t4 : TK (upd H2 wl (.lst (us2 ++ [wv2]))) (upd (upd H2 wl (.lst (us2 ++ [wv2]))) cl (.lst (uc2 ++ [.int ((cellK m2).length : Nat)]))) := TK.lst hcl3
            have hwa4 := t4.seqT (t3.seqT hwa)
            have Dcwl : Dc ≠ wl := ne_of hh2.dc hwl2 (by intro z; cases z)
            have Dccl : Dc ≠ cl := ne_of hh2.dc hcl2 (by intro z; cases z)
            have hDc4 : (upd (upd H2 wl (.lst (us2 ++ [wv2]))) cl (.lst (uc2 ++ [.int ((cellK m2).length : Nat)]))) Dc = some (.dT (histK hs1)) := by
              rw [upd_ne Dccl, upd_ne Dcwl]
              exact hh2.dc
            have hwl4 : (upd (upd H2 wl (.lst (us2 ++ [wv2]))) cl (.lst (uc2 ++ [.int ((cellK m2).length : Nat)]))) wl = some (.lst (us2 ++ [wv2])) := by
              rw [upd_ne R1.wc]
              exact upd_same
            have hcl4 : (upd (upd H2 wl (.lst (us2 ++ [wv2]))) cl (.lst (uc2 ++ [.int ((cellK m2).length : Nat)]))) cl = some (.lst (uc2 ++ [.int ((cellK m2).length : Nat)])) := upd_same
            have k4 : KeepE [wl, cl] H2 (upd (upd H2 wl (.lst (us2 ++ [wv2]))) cl (.lst (uc2 ++ [.int ((cellK m2).length : Nat)]))) := (KeepE.put List.mem_cons_self).trans (KeepE.put (List.mem_cons_of_mem _ List.mem_cons_self))
            have t24 := t3.trans t4
            have tyD := ty_dT (K := K) hDc4
            walk_at "st"
            clear hr3 hxa3 hD3 hcl3 t3 t4 tyD
            generalize hH4 : upd (upd H2 wl (.lst (us2 ++ [wv2]))) cl (.lst (uc2 ++ [.int ((cellK m2).length : Nat)])) = H4 at *
            intro p1 np1
            have s5 : Same H4 (upd H4 p1 (.tup [.int w1.1, .int w1.2.1])) := Same.new np1
            have hp1 : (upd H4 p1 (.tup [.int w1.1, .int w1.2.1])) p1 = some (.tup [.int w1.1, .int w1.2.1]) := upd_same
            generalize hH5 : upd H4 p1 (.tup [.int w1.1, .int w1.2.1]) = H5 at *
            rw [show upd H4 p1 (.tup (cutV [.int w1.1, .int w1.2.1, .int w1.2.2.1, .int w1.2.2.2] none (some 2))) = H5 from hH5]
            walk_at "st"
            intro l nl
            have s6 : Same H5 (upd H5 l (.lst [])) := Same.new nl
            have hl6 : (upd H5 l (.lst [])) l = some (.lst []) := upd_same
            generalize hH6 : upd H5 l (.lst []) = H6 at *
            have s46 := Same.trans s5 s6
            have hDc6 := s46 _ _ hDc4
            have hp6 := s6 _ _ hp1
            have lhk : (histK hs1).length < sizeLine := by
              unfold histK
              rw [List.length_map]
              exact small1000 (by have := R1.lh; omega)
            have hr6 := s46 _ _ hr4
            have hwl6 := s46 _ _ hwl4
            have hcl6 := s46 _ _ hcl4
            have t26 : TK H2 H6 := t24.trans (Same.tk s46)
            have run2 : runW Tb (n1 + 1) z0 = some (col m2, w2) := by
              show (runW Tb n1 z0).bind (stepW Tb) = _
              rw [R1.run]
              exact he.run
            have hus6 : TpAll K H6 (us2 ++ [wv2]) ((wls Tb z0 (n1 + 2)).map wkD) := by
              rw [show n1 + 2 = (n1 + 1) + 1 from rfl, wls_succ, run2, List.map_append]
              exact TpAll.append (TpAll.mono t26 _ _ hus2) (.cons (Tp.mono t26 _ _ hwv2) .nil)
            have hW6 : WlAt K CR H6 r (wls Tb z0 (n1 + 2)) := ⟨dx2, .ref a, wl, cl, .ref Dc, _, hr6, hwl6, hus6⟩
            have k4in : ∀ {b : Addr} {o : HO}, b ≠ wl → b ≠ cl → H2 b = some o → H6 b = some o := fun n1 n2 e => s46 _ _ (k4 _ _ (fun z => by
              rcases List.mem_cons.mp z with z | z
              · exact n1 z
              · exact n2 (List.mem_singleton.mp z)) e)
            have hxa6 := k4in awl acl hxa2
            have hD6 := k4in Dwl Dcl hD2
            have kp6 : KeepE (recE a D Dc wl cl hs) H H6 := (kp2.trans (k4.mono fun b hb => List.mem_append_left _ (by
              rcases List.mem_cons.mp hb with h | h
              · rw [h]
                simp
              · rw [List.mem_singleton.mp h]
                simp))).trans (Same.keepE s46)
            have el : ((n1 + 2 : Nat) : Int) - 1 = ((n1 + 1 : Nat) : Int) := by omega
            have nlwl : l ≠ wl := (ne_of_none (s5 _ _ hwl4) nl).symm
            have nlcl : l ≠ cl := (ne_of_none (s5 _ _ hcl4) nl).symm
            have k4in5 : ∀ {b : Addr} {o : HO}, b ≠ wl → b ≠ cl → H2 b = some o → H5 b = some o := fun n1 n2 e => s5 _ _ (k4 _ _ (fun z => by
              rcases List.mem_cons.mp z with z | z
              · exact n1 z
              · exact n2 (List.mem_singleton.mp z)) e)
            have nlh : ∀ e ∈ hs1, e.2.1 ≠ l := fun e he => by
              obtain ⟨us', r1, _⟩ := hh2.ls e he
              obtain ⟨o1, o2⟩ := R1.ne e he
              exact ne_of_none (k4in5 o1 o2 r1) nl
            have nla : l ≠ a := (ne_of_none (k4in5 awl acl hxa2) nl).symm
            have nlD : l ≠ D := (ne_of_none (k4in5 Dwl Dcl hD2) nl).symm
            have nlDc : l ≠ Dc := (ne_of_none (k4in5 Dcwl Dccl hh2.dc) nl).symm
            have kp5 : KeepE (recE a D Dc wl cl hs) H H5 := (kp2.trans (k4.mono fun b hb => List.mem_append_left _ (by
              rcases List.mem_cons.mp hb with h | h
              · rw [h]
                simp
              · rw [List.mem_singleton.mp h]
                simp))).trans (Same.keepE s5)
            have lfr : (l ∈ hs.map fun e => e.2.1) ∨ H l = none := by
              by_cases z : l ∈ hs.map fun e => e.2.1
              · exact .inl z
              · right
                cases hq : H l with
                | none => rfl
                | some o =>
                  have g := kp5 l o (fun y => by
                    rcases List.mem_append.mp y with y | y
                    · rcases List.mem_cons.mp y with y | y
                      · exact nla y
                      · rcases List.mem_cons.mp y with y | y
                        · exact nlD y
                        · rcases List.mem_cons.mp y with y | y
                          · exact nlDc y
                          · rcases List.mem_cons.mp y with y | y
                            · exact nlwl y
                            · exact nlcl (List.mem_singleton.mp y)
                    · exact z y) hq
                  rw [nl] at g
                  cases g
            clear s5 s6 hH4 hH5 hH6 np1 hwa4 hDc4 hwl4 hcl4 hr4 tv hSL
            refine ⟨Dc, histK hs1, ptK (wPt w1), p1, .ref l, rfl, rfl, hDc6, hp6, lhk, fun v hv => ?_, fun hv => ?_⟩
            · rw [hist_val] at hv
              obtain ⟨ad, ls, hq0, rfl⟩ : ∃ ad ls, lookH hs1 (wPt w1) = some (ad, ls) ∧ v = .ref ad := by
                cases hq : lookH hs1 (wPt w1) with
                | none =>
                  rw [hq] at hv
                  cases hv
                | some q0 =>
                  rw [hq] at hv
                  exact ⟨q0.1, q0.2, rfl, (Option.some.inj hv).symm⟩
              have mem0 := lookH_mem hq0
              obtain ⟨us, g1, g2⟩ := hh2.ls _ mem0
              obtain ⟨nad1, nad2⟩ := R1.ne _ mem0
              have g6 := k4in nad1 nad2 g1
              have hSad := SqL.of (K := K) g6
              have szu : us.length < sizeLine := small1000 (by
                have z1 := TpAll.length g2
                rw [List.length_map] at z1
                have z2 := R1.ll _ mem0
                have z2 : ls.length ≤ n1 + 1 := z2
                have z1 : us.length = ls.length := z1
                omega)
              walk_at "st"
              rw [wls_len, el]
              intro t nt
              have s7 : Same H6 (upd H6 t (.tup [.int ((n1 + 1 : Nat) : Int), .int e3.1])) := Same.new nt
              have ht7 : Tp K (upd H6 t (.tup [.int ((n1 + 1 : Nat) : Int), .int e3.1])) (.ref t) (scD (((n1 + 1 : Nat) : Int), e3.1)) := Tp.of_ints (ks := [((n1 + 1 : Nat) : Int), e3.1]) (SqT.of upd_same)
              generalize hH7 : upd H6 t (.tup [.int ((n1 + 1 : Nat) : Int), .int e3.1]) = H7 at *
              have g7 := s7 _ _ g6
              have hSad7 := SqL.of (K := K) g7
              walk_at "st"
              have t8 : TK H7 (upd H7 ad (.lst (us ++ [.ref t]))) := TK.lst g7
              have had8 : (upd H7 ad (.lst (us ++ [.ref t]))) ad = some (.lst (us ++ [.ref t])) := upd_same
              have ht8 := Tp.mono t8 _ _ ht7
              have k8 : KeepE [ad] H7 (upd H7 ad (.lst (us ++ [.ref t]))) := KeepE.put List.mem_cons_self
              generalize hH8 : upd H7 ad (.lst (us ++ [.ref t])) = H8 at *
              have keep8 : ∀ {b : Addr} {o : HO}, b ≠ ad → H6 b = some o → H8 b = some o := fun n e => k8 _ _ (fun z => n (List.mem_singleton.mp z)) (s7 _ _ e)
              have t68 : TK H6 H8 := (Same.tk s7).trans t8
              have t28 := t26.trans t68
              have inK : wPt w1 ∈ hs1.map (·.1) := List.mem_map.mpr ⟨_, mem0, rfl⟩
              have hK : histK (histPut hs1 (wPt w1) l (((n1 + 1 : Nat) : Int), e3.1)) = histK hs1 := by rw [histK_put, if_pos inK]
              have str8 : StrAt K CS H8 a D Tb m2 w2 := ⟨⟨dxs2, tv2, gv2, wv2, keep8 (ne_of hxa6 g6 (by intro z; cases z)) hxa6, Tp.mono t28 _ _ htv2, Tp.mono t28 _ _ hwv2, Tp.mono t28 _ _ hgv2⟩, keep8 (ne_of hD6 g6 (by intro z; cases z)) hD6, nd2, nz2⟩
              have T8 : TrkR H8 wl Tb z0 := ⟨_, keep8 nad1.symm hwl6, trk2.mono t28⟩
              have R8 := RecAt.next (l := l) R1 (H' := H8) (keep8 (ne_of hr6 g6 (by intro z; cases z)) hr6) (keep8 nad1.symm hwl6) (TpAll.mono t68 _ _ hus6) (keep8 nad2.symm hcl6) (by rw [List.length_append, luc2]; rfl) str8 hent hst.symm hml (by rw [hK]; exact keep8 (ne_of hDc6 g6 (by intro z; cases z)) hDc6) (fun e' he' => ?_) (fun z => absurd inK z)
              · refine ⟨⟨_, _, _, _, n1 + 1, m2, w2, _, rfl, R8, T8, by omega, ?_, fun e' he' => ?_⟩, ?_⟩
                · rcases hfr _ mem0 with z | z
                  · exact (kp6.trans (Same.keepE s7)).trans (k8.mono fun b hb => List.mem_append_right _ (by rw [List.mem_singleton.mp hb]; exact z))
                  · rw [← hH8]
                    exact (kp6.trans (Same.keepE s7)).fresh z
                · have g : e'.2.1 ∈ hs1.map fun e => e.2.1 := by
                    rw [← histPut_adr (a := l) (x := (((n1 + 1 : Nat) : Int), e3.1)) inK]
                    exact List.mem_map.mpr ⟨e', he', rfl⟩
                  obtain ⟨e0, h0, g⟩ := List.mem_map.mp g
                  rw [← g]
                  exact hfr e0 h0
                · rw [keep8 nad1.symm hwl6, hwl1]
                  show step.toNat + 1 - (us2 ++ [wv2]).length < step.toNat + 1 - us1.length
                  rw [List.length_append, lus2, lus1]
                  show step.toNat + 1 - (n1 + 1 + 1) < step.toNat + 1 - (n1 + 1)
                  omega
              · rcases histPut_get R1.his.nd hq0 e' he' with q1 | ⟨q1, q2⟩
                · rw [q1]
                  refine ⟨_, had8, ?_⟩
                  rw [List.map_append]
                  exact TpAll.append (TpAll.mono t28 _ _ g2) (.cons ht8 .nil)
                · obtain ⟨us', r1, r2⟩ := hh2.ls _ q1
                  obtain ⟨o1, o2⟩ := R1.ne _ q1
                  refine ⟨us', keep8 (fun z => q2 ?_) (k4in o1 o2 r1), TpAll.mono t28 _ _ r2⟩
                  have := nd_inj R1.nda q1 mem0 z
                  rw [this]
            · have hv0 := hv
              rw [hist_val] at hv
              have ninK : wPt w1 ∉ hs1.map (·.1) := fun z => by
                obtain ⟨q1, q2, q3⟩ := lookH_some z
                rw [q3] at hv
                cases hv
              have hrA : (upd H6 Dc (.dT (putK (histK hs1) (ptK (wPt w1)) (.ref l)))) r = some (.ins CR dx2 (recF (.ref a) wl cl (.ref Dc))) := by
                rw [upd_ne (ne_of hr6 hDc6 (by intro z; cases z))]
                exact hr6
              have tA : TK H6 (upd H6 Dc (.dT (putK (histK hs1) (ptK (wPt w1)) (.ref l)))) := tkS (Soft.dT hDc6) (KeepE.put List.mem_cons_self)
              have kA : KeepE [Dc] H6 (upd H6 Dc (.dT (putK (histK hs1) (ptK (wPt w1)) (.ref l)))) := KeepE.put List.mem_cons_self
              have hDcA : (upd H6 Dc (.dT (putK (histK hs1) (ptK (wPt w1)) (.ref l)))) Dc = some (.dT (putK (histK hs1) (ptK (wPt w1)) (.ref l))) := upd_same
              generalize hHA : upd H6 Dc (.dT (putK (histK hs1) (ptK (wPt w1)) (.ref l))) = HA at *
              have keepA : ∀ {b : Addr} {o : HO}, b ≠ Dc → H6 b = some o → HA b = some o := fun n e => kA _ _ (fun z => n (List.mem_singleton.mp z)) e
              have hlA := keepA nlDc hl6
              have hwlA := keepA Dcwl.symm hwl6
              have hclA := keepA Dccl.symm hcl6
              have hSl := SqL.of (K := K) hlA
              have hWA : WlAt K CR HA r (wls Tb z0 (n1 + 2)) := ⟨dx2, .ref a, wl, cl, .ref Dc, _, hrA, hwlA, TpAll.mono tA _ _ hus6⟩
              have sz0 : ([] : List V).length < sizeLine := by decide
              walk_at "st"
              rw [wls_len, el]
              intro t nt
              have s7 : Same HA (upd HA t (.tup [.int ((n1 + 1 : Nat) : Int), .int e3.1])) := Same.new nt
              have ht7 : Tp K (upd HA t (.tup [.int ((n1 + 1 : Nat) : Int), .int e3.1])) (.ref t) (scD (((n1 + 1 : Nat) : Int), e3.1)) := Tp.of_ints (ks := [((n1 + 1 : Nat) : Int), e3.1]) (SqT.of upd_same)
              generalize hH7 : upd HA t (.tup [.int ((n1 + 1 : Nat) : Int), .int e3.1]) = H7 at *
              have g7 := s7 _ _ hlA
              have hSl7 := SqL.of (K := K) g7
              walk_at "st"
              have t8 : TK H7 (upd H7 l (.lst ([] ++ [.ref t]))) := TK.lst g7
              have had8 : (upd H7 l (.lst ([] ++ [.ref t]))) l = some (.lst ([] ++ [.ref t])) := upd_same
              have ht8 := Tp.mono t8 _ _ ht7
              have k8 : KeepE [l] H7 (upd H7 l (.lst ([] ++ [.ref t]))) := KeepE.put List.mem_cons_self
              generalize hH8 : upd H7 l (.lst ([] ++ [.ref t])) = H8 at *
              have keep8 : ∀ {b : Addr} {o : HO}, b ≠ l → HA b = some o → H8 b = some o := fun n e => k8 _ _ (fun z => n (List.mem_singleton.mp z)) (s7 _ _ e)
              have t68 : TK H6 H8 := tA.trans ((Same.tk s7).trans t8)
              have t28 := t26.trans t68
              have eK := histPut_new (a := l) (x := (((n1 + 1 : Nat) : Int), e3.1)) ninK
              have hK : histK (histPut hs1 (wPt w1) l (((n1 + 1 : Nat) : Int), e3.1)) = putK (histK hs1) (ptK (wPt w1)) (.ref l) := by
                rw [histK_put, if_neg ninK, putK_new _ hv0]
              have aDc : a ≠ Dc := ne_of hxa6 hDc6 (by intro z; cases z)
              have str8 : StrAt K CS H8 a D Tb m2 w2 := ⟨⟨dxs2, tv2, gv2, wv2, keep8 nla.symm (keepA aDc hxa6), Tp.mono t28 _ _ htv2, Tp.mono t28 _ _ hwv2, Tp.mono t28 _ _ hgv2⟩, keep8 nlD.symm (keepA R1.dd.symm hD6), nd2, nz2⟩
              have T8 : TrkR H8 wl Tb z0 := ⟨_, keep8 nlwl.symm hwlA, trk2.mono t28⟩
              have R8 := RecAt.next (l := l) R1 (H' := H8) (keep8 (ne_of hrA hlA (by intro z; cases z)) hrA) (keep8 nlwl.symm hwlA) (TpAll.mono t68 _ _ hus6) (keep8 nlcl.symm hclA) (by rw [List.length_append, luc2]; rfl) str8 hent hst.symm hml (by rw [hK]; exact keep8 nlDc.symm hDcA) (fun e' he' => ?_) (fun _ => ⟨nlwl, nlcl, nlh⟩)
              · refine ⟨⟨_, _, _, _, n1 + 1, m2, w2, _, rfl, R8, T8, by omega, ?_, fun e' he' => ?_⟩, ?_⟩
                · have kpA : KeepE (recE a D Dc wl cl hs) H HA := kp6.trans (kA.mono fun b hb => List.mem_append_left _ (by rw [List.mem_singleton.mp hb]; simp))
                  rcases lfr with z | z
                  · exact (kpA.trans (Same.keepE s7)).trans (k8.mono fun b hb => List.mem_append_right _ (by rw [List.mem_singleton.mp hb]; exact z))
                  · rw [← hH8]
                    exact (kpA.trans (Same.keepE s7)).fresh z
                · rw [eK] at he'
                  rcases List.mem_append.mp he' with g | g
                  · exact hfr e' g
                  · rw [List.mem_singleton.mp g]
                    exact lfr
                · rw [keep8 nlwl.symm hwlA, hwl1]
                  show step.toNat + 1 - (us2 ++ [wv2]).length < step.toNat + 1 - us1.length
                  rw [List.length_append, lus2, lus1]
                  show step.toNat + 1 - (n1 + 1 + 1) < step.toNat + 1 - (n1 + 1)
                  omega
              · rw [eK] at he'
                rcases List.mem_append.mp he' with g | g
                · obtain ⟨us', r1, r2⟩ := hh2.ls _ g
                  obtain ⟨o1, o2⟩ := R1.ne _ g
                  have r6 := k4in o1 o2 r1
                  exact ⟨us', keep8 (nlh _ g) (keepA (ne_of r6 hDc6 (by intro z; cases z)) r6), TpAll.mono t28 _ _ r2⟩
                · rw [List.mem_singleton.mp g]
                  exact ⟨_, had8, .cons ht8 .nil⟩
      · have e : ¬ ((n1 + 1 : Nat) : Int) - 1 < step := fun z => e (decide_eq_true z)
        walk_at "st"
        exact q true n1 m1 w1 hs1 H1 R1 R1T (.inl ⟨rfl, by omega⟩) kp
    · intro σ H1 Q1 Q2 hq h
      obtain ⟨v0, e0, a0, dx0, fs0, q1, q2, q3, r0, ws0, q4, q5, v1, e1, i1, j1, r1, r2, k, ek, h⟩ := h
      exact ⟨v0, e0, a0, dx0, fs0, q1, q2, q3, r0, ws0, q4, q5, v1, e1, i1, j1, r1, r2, k, ek, hq _ _ h⟩
end

/-! ### Record.floor_behind -/
theorem nd_filter {m : CM} (nd : (m.map (·.1)).Nodup) (f : Pt × Int → Bool) : ((m.filter f).map (·.1)).Nodup := List.Nodup.sublist (List.Sublist.map Prod.fst List.filter_sublist) nd
theorem col_filter {m : CM} (nd : (m.map (·.1)).Nodup) (q : Pt) : col (m.filter fun e => decide (0 < e.2)) q = if 0 < col m q then col m q else 0 := by
  have nf := nd_filter nd (fun e => decide (0 < e.2))
  unfold col
  cases h : look (m.filter fun e => decide (0 < e.2)) q with
  | some d =>
    obtain ⟨h1, h2⟩ := List.mem_filter.mp (look_mem h)
    rw [mem_look nd h1]
    have h2 : 0 < d := of_decide_eq_true h2
    show d = if 0 < d then d else 0
    rw [if_pos h2]
  | none =>
    cases h2 : look m q with
    | none =>
      show (0 : Int) = if (0 : Int) < 0 then 0 else 0
      rw [if_neg (by decide)]
    | some c =>
      show (0 : Int) = if 0 < c then c else 0
      rw [if_neg]
      intro z
      have := mem_look nf (List.mem_filter.mpr ⟨look_mem h2, decide_eq_true z⟩)
      rw [h] at this
      cases this
/-- what the histories say of step j -/
def hisM (hs : Hist) (j : Int) : CM := hs.map fun e => (e.1, latest e.2.2 j)
theorem hisM_look : ∀ (hs : Hist) (j : Int) (p : Pt), look (hisM hs j) p = (lookH hs p).map fun e => latest e.2 j
  | [], _, _ => rfl
  | e :: r, j, p => by
    show (if e.1 = p then some (latest e.2.2 j) else look (hisM r j) p) = (if e.1 = p then some e.2 else lookH r p).map _
    by_cases c : e.1 = p
    · rw [if_pos c, if_pos c]
      rfl
    · rw [if_neg c, if_neg c]
      exact hisM_look r j p
theorem hisM_col (hs : Hist) (j : Int) (p : Pt) : col (hisM hs j) p = latH hs p j := by
  unfold col latH
  rw [hisM_look]
theorem hisM_keys (hs : Hist) (j : Int) : (hisM hs j).map (·.1) = hs.map (·.1) := by
  unfold hisM
  rw [List.map_map]
  rfl
theorem gname_ofR {i : Nat} {v : V} {σ : L2.St} {H : Hp} {k : L2.St → Hp → Prop} (h : k (σ.set i (some v)) H) : gName i v σ H k := h
theorem lookH_at : ∀ {hs : Hist} {e : Pt × Addr × List Pt}, (hs.map (·.1)).Nodup → e ∈ hs → lookH hs e.1 = some e.2
  | e0 :: r, e, nd, h => by
    obtain ⟨n1, n2⟩ := List.nodup_cons.mp (show (e0.1 :: r.map (·.1)).Nodup from nd)
    unfold lookH
    rcases List.mem_cons.mp h with z | z
    · rw [z, if_pos rfl]
    · have ne : e0.1 ≠ e.1 := fun y => n1 (by rw [y]; exact List.mem_map.mpr ⟨e, z, rfl⟩)
      rw [if_neg ne]
      exact lookH_at n2 z
def spRFloor (K : PySem.W.Frag) (CR CS : Addr) : Sp := fun vs H Q _ => ∃ (r a D Dc wl cl : Addr) (T : List (List Ent)) (z0 y : WSt) (n j : Nat) (m : CM) (w : Wk) (hs : Hist), vs = [.ref r, .int (j : Int)] ∧ RecAt K CR CS H r a D Dc wl cl T z0 n m w hs ∧ j ≤ n ∧ n ≤ 800 ∧ runW T j z0 = some y ∧ (∀ p, 0 ≤ y.1 p) ∧
  ∀ v H' F', FloorOf y.1 F' → F'.length ≤ 1000 → Tp K H' v (floorD F') → Same H H' → Q v H'
section
variable {P : Program} {w : World} {K : PySem.W.Frag} {mg : Str → Option Value} {base : Heap}
local macro_rules | `(tactic| walk_at "cl") => `(tactic| first | (refine le_only ?_; omega) | (refine lt_only ?_; omega))
theorem ok_Record_floor (T : Txt K mg) {CR CS : Addr} (S : ClsR K mg CR) (RC : MCal P w K mg base CR "colour_behind" 1 ["self", "step", "place"] (spRColour K CR)) (M : MetAt K CR "floor_behind" "Record.floor_behind" s_Record_floor_behind ["self", "step"]) (C_floor_of : Cal P w K mg base CX0 "floor_of" 1 ["painted"] (spFloorOf K)) : MCal P w K mg base CR "floor_behind" 2 ["self", "step"] (spRFloor K CR CS) := by
  obtain ⟨f, fd, me, F, b⟩ := M.meth
  refine ⟨f, fd, me, F.ok sc_Record_floor_behind (fun vs H Q E h => ?_) (fun cdv A outer s H vs Q E hr h => ?_), b⟩
  · obtain ⟨r, a, D, Dc, wl, cl, Tb, z0, y, n, j, m, wk, hs, rfl, _⟩ := h
    rfl
  · obtain ⟨r, a, D, Dc, wl, cl, Tb, z0, y, n, j, m, wk, hs, rfl, hR, jn, n8, hy, nn, q⟩ := h
    refine ⟨_, (pss_cons (ps_set (i := 2) sc_Record_floor_behind.nd rfl (Or.inr rfl) (pe_lock (pe_dcT (own := [("place", 3)]) (g := gName 3) rfl hr.units0 sc_Record_floor_behind.nd (pi_keys (k_fld (K := K) (pv 0) (by rfl))) (blkOk_by (by rfl)) (fun _ _ _ _ _ => (pg_name (i := 3) sc_Record_floor_behind.nd rfl (Or.inl rfl))) (fun _ _ _ _ _ => (pv 3)) (fun _ _ _ _ _ => (pe_ownM RC S.cl hr (by decide) (pv 0) (pa_cons (pv 1) (pa_cons (pv 3) pa_nil)))))))
      (pss_one (ps_ret (pe_own C_floor_of hr (by first | decide | omega) (pa_cons (pe_lock (pe_dcTi (own := [("place", 3)]) (g := gName 3) rfl hr.units0 sc_Record_floor_behind.nd (pi_keys (pv 2)) (blkOk_by (by rfl)) (fun _ _ _ _ _ => (pg_name (i := 3) sc_Record_floor_behind.nd rfl (Or.inl rfl))) (fun _ _ _ _ _ => pts_one (pt_cmpR op_gt (pe_dget (hu_of hr) (pv 2) (pv 3) (fun _ _ => rfl)) pe_int (nomark _))) (fun _ _ _ _ _ => (pv 3)) (fun _ _ _ _ _ => (pe_dget (hu_of hr) (pv 2) (pv 3) (fun _ _ => rfl))))) pa_nil))))), ?_⟩
    have cl1 := S.cl
    have nCo := S.nCo
    obtain ⟨dx, us, uc, hr1, hwl, hus, hcl, luc⟩ := id hR.ob
    have fC : (recF (.ref a) wl cl (.ref Dc)).lookup ("colours" : Str) = some (.ref Dc) := rlkC
    have noB : (recF (.ref a) wl cl (.ref Dc)).lookup ("colour_behind" : Str) = none := rno (by decide +kernel)
    have hh := hR.his
    have lh := hR.lh
    have ecol : ∀ p, col (hisM hs j) p = y.1 p := fun p => by rw [hisM_col]; exact hR.ok.at_ j y jn hy p
    have ndM : ((hisM hs j).map (·.1)).Nodup := by rw [hisM_keys]; exact hh.nd
    have lM : (hisM hs j).length = hs.length := by
      unfold hisM
      rw [List.length_map]
    have hDc := hh.dc
    refine ⟨Dc, _, hDc, (by first | trivial | exact True.intro | exact rfl | decide | skip), ?_⟩
    intro od
    have fD : (upd H Dc (.frz od (.dT (histK hs)))) Dc = some (.frz od (.dT (histK hs))) := upd_same
    have kF : ∀ b o, b ≠ Dc → H b = some o → (upd H Dc (.frz od (.dT (histK hs)))) b = some o := fun b o n e => (upd_ne n).trans e
    have bF : ∀ b, (upd H Dc (.frz od (.dT (histK hs)))) b = none → H b = none := fun b e => by
      by_cases z : b = Dc
      · rw [z, upd_same] at e
        cases e
      · rw [upd_ne z] at e
        exact e
    have tF : TK H (upd H Dc (.frz od (.dT (histK hs)))) := tkS (Soft.dT hDc) (KeepE.put List.mem_cons_self)
    have hrF := kF _ _ (ne_of hr1 hDc (by intro z; cases z)) hr1
    generalize hHf : upd H Dc (.frz od (.dT (histK hs))) = Hf at *
    walk_at "st"
    refine .inr ⟨_, fD, ?_⟩
    intro R nR
    have nRD : R ≠ Dc := fun z => by
      rw [z, fD] at nR
      cases nR
    have lK : (histK hs).length = hs.length := by
      unfold histK
      rw [List.length_map]
    refine dcT_it (walk_keysT (d := Dc) (o := od) (kvs := histK hs)) (fun i H' => Ok (Same Hf H' ∧ H' R = some (.dT (cellK ((hisM hs j).take i))))) ⟨Same.new nR, upd_same⟩ (fun i H' _ ⟨sm, _⟩ => sm _ _ fD) ?_ ?_
    · rintro i x H1 H2 hi ⟨sm, hL⟩ ⟨rfl, k, v, qa, hk, rfl, hq⟩
      rw [lK] at hi
      have e0 : (histK hs)[i]? = some (ptK hs[i].1, V.ref hs[i].2.1) := by
        unfold histK
        rw [List.getElem?_map, List.getElem?_eq_getElem hi]
        rfl
      rw [e0] at hk
      obtain ⟨rfl, rfl⟩ := Prod.mk.inj (Option.some.inj hk)
      have hM : (hisM hs j)[i]? = some (hs[i].1, latest hs[i].2.2 j) := by
        unfold hisM
        rw [List.getElem?_map, List.getElem?_eq_getElem hi]
        rfl
      have tk1 := take_more hM
      have lkh : lookH hs hs[i].1 = some hs[i].2 := lookH_at hh.nd (List.getElem_mem hi)
      have nin : hs[i].1 ∉ ((hisM hs j).take i).map (·.1) := fun z => by
        have nd2 : (((hisM hs j).take (i + 1)).map (·.1)).Nodup := ndM.sublist ((List.take_sublist _ _).map _)
        rw [tk1, List.map_append, List.nodup_append] at nd2
        exact nd2.2.2 _ z _ List.mem_cons_self rfl
      have nd1 : (((hisM hs j).take i).map (·.1)).Nodup := ndM.sublist ((List.take_sublist _ _).map _)
      have hsz : (cellK ((hisM hs j).take i)).length < sizeLine := by
        rw [cell_len, List.length_take]
        exact small1000 (by omega)
      generalize hs[i] = e at *
      have hq : H2 qa = some (.tup [.int e.1.1, .int e.1.2]) := hq
      have hr2 := sm _ _ hrF
      have hh2 : HistR K H2 Dc hs := ⟨.inr ⟨od, sm _ _ fD⟩, fun e' he' => by
        obtain ⟨us', r1, r2⟩ := hh.ls e' he'
        exact ⟨us', sm _ _ (kF _ _ (ne_of r1 hDc (by intro z; cases z)) r1), TpAll.mono (tF.trans (Same.tk sm)) _ _ r2⟩⟩
      have elat : latH hs e.1 j = latest e.2.2 j := by
        unfold latH
        rw [lkh]
        rfl
      walk_at "st"
      intro H3 s3
      rw [elat]
      exact ⟨_, ptK e.1, qa, rfl, s3 _ _ hq, s3 _ _ hL, hsz, Same.fresh (Same.trans sm s3) nR, by rw [upd_same, cellK_snoc nd1 nin, tk1]⟩
    · rintro H1 ⟨sm, hL⟩
      rw [lK, ← lM, List.take_length] at hL
      refine ⟨sm _ _ fD, ?_⟩
      have sB : Same H (upd H1 Dc (.dT (histK hs))) := fun b o e => by
        by_cases z : b = Dc
        · rw [z, upd_same, ← hDc, ← z]
          exact e
        · rw [upd_ne z]
          exact sm _ _ (kF _ _ z e)
      have hR2 : (upd H1 Dc (.dT (histK hs))) R = some (.dT (cellK (hisM hs j))) := by
        rw [upd_ne nRD]
        exact hL
      have nRH := bF _ nR
      generalize hH2 : upd H1 Dc (.dT (histK hs)) = H2 at *
      refine gname_ofR ?_
      refine ⟨R, _, hR2, trivial, ?_⟩
      intro od2
      generalize hmm : hisM hs j = mm at *
      have nd := ndM
      have lmm : mm.length ≤ 1000 := by omega
      have fD2 : (upd H2 R (.frz od2 (.dT (cellK mm)))) R = some (.frz od2 (.dT (cellK mm))) := upd_same
      have kF2 : ∀ b o, b ≠ R → H2 b = some o → (upd H2 R (.frz od2 (.dT (cellK mm)))) b = some o := fun b o n e => (upd_ne n).trans e
      have bF2 : ∀ b, (upd H2 R (.frz od2 (.dT (cellK mm)))) b = none → H2 b = none := fun b e => by
        by_cases z : b = R
        · rw [z, upd_same] at e
          cases e
        · rw [upd_ne z] at e
          exact e
      generalize hHf2 : upd H2 R (.frz od2 (.dT (cellK mm))) = Hf2 at *
      walk_at "st"
      refine .inr ⟨_, fD2, ?_⟩
      intro R2 nR2
      have nR2R : R2 ≠ R := fun z => by
        rw [z, fD2] at nR2
        cases nR2
      refine dcTi_it (walk_keysT (d := R) (o := od2) (kvs := cellK mm)) (fun i H4 => Ok (Same Hf2 H4 ∧ H4 R2 = some (.dT (cellK ((mm.take i).filter fun e => decide (0 < e.2)))))) ⟨Same.new nR2, upd_same⟩ (fun i H4 _ ⟨s4, _⟩ => s4 _ _ fD2) ?_ ?_
      · rintro i x H4 H5 hi ⟨s4, hR3⟩ ⟨rfl, kk, v, qa, hk, rfl, hq⟩
        have hi : i < mm.length := by rw [cell_len] at hi; exact hi
        have e0 : (cellK mm)[i]? = some (ptK mm[i].1, V.int mm[i].2) := by
          unfold cellK
          rw [List.getElem?_map, List.getElem?_eq_getElem hi]
          rfl
        rw [e0] at hk
        obtain ⟨rfl, rfl⟩ := Prod.mk.inj (Option.some.inj hk)
        have tk1 := take_more (List.getElem?_eq_getElem hi)
        have lk1 : look mm mm[i].1 = some mm[i].2 := mem_look nd (List.getElem_mem hi)
        have nqi : mm[i].1 ∉ ((mm.take i).filter fun e => decide (0 < e.2)).map (·.1) := fun z => by
          obtain ⟨x, hx, ex⟩ := List.mem_map.mp z
          obtain ⟨j, hj, ej⟩ := List.mem_iff_getElem.mp (List.mem_filter.mp hx).1
          rw [List.length_take] at hj
          rw [List.getElem_take] at ej
          have := (List.pairwise_iff_getElem.mp nd) j i (by rw [List.length_map]; omega) (by rw [List.length_map]; exact hi) (by omega)
          rw [List.getElem_map, List.getElem_map] at this
          exact this (by rw [ej]; exact ex)
        generalize mm[i] = e at *
        obtain ⟨pq, c⟩ := e
        have g5 : DGet H5 R (.ref qa) (some (.int c)) := .inr ⟨cellK mm, ptK pq, qa, .inr ⟨od2, s4 _ _ fD2⟩, rfl, hq, by rw [cell_val, lk1]; rfl⟩
        have lR : (cellK ((mm.take i).filter fun e => decide (0 < e.2))).length < sizeLine := by
          rw [cell_len]
          have z := List.length_filter_le (fun e : Pt × Int => decide (0 < e.2)) (mm.take i)
          have z2 := List.length_take_le i mm
          exact Nat.lt_of_le_of_lt (show _ ≤ 3000 by omega) (by decide)
        walk_at "st"
        refine ite2 (fun g => ?_) (fun g => ?_)
        · have g := of_decide_eq_true g
          walk_at "st"
          refine ⟨Same.fresh s4 nR2, ?_⟩
          rw [upd_same, tk1, List.filter_append, show [(pq, c)].filter (fun e : Pt × Int => decide (0 < e.2)) = [(pq, c)] from List.filter_cons_of_pos (by simpa using g), putK_new _ (by rw [cell_val, look_none.mpr nqi]; rfl)]
          unfold cellK
          rw [List.map_append]
          rfl
        · have g : ¬ 0 < c := fun z => g (decide_eq_true z)
          refine ⟨s4, ?_⟩
          rw [tk1, List.filter_append, List.filter_cons_of_neg (by simpa using g), List.filter_nil, List.append_nil]
          exact hR3
      · rintro H4 ⟨s4, hR3⟩
        rw [cell_len, List.take_length] at hR3
        refine ⟨s4 _ _ fD2, ?_⟩
        have hR5 : (upd H4 R (.dT (cellK mm))) R2 = some (.dT (cellK (mm.filter fun e => decide (0 < e.2)))) := by
          rw [upd_ne nR2R]
          exact hR3
        have sE : Same H (upd H4 R (.dT (cellK mm))) := fun b o eb => by
          have nb : b ≠ R := fun z => by
            rw [z, nRH] at eb
            cases eb
          rw [upd_ne nb]
          exact s4 _ _ (kF2 _ _ nb (sB _ _ eb))
        have ndf := nd_filter nd (fun e => decide (0 < e.2))
        have nzf : ∀ e ∈ mm.filter (fun e => decide (0 < e.2)), e.2 ≠ 0 := fun e he => by
          have g : 0 < e.2 := of_decide_eq_true (List.mem_filter.mp he).2
          omega
        have lf : (mm.filter fun e => decide (0 < e.2)).length ≤ 1000 := Nat.le_trans (List.length_filter_le _ _) lmm
        have ec : col (mm.filter fun e => decide (0 < e.2)) = y.1 := by
          funext p
          rw [col_filter nd, ecol]
          have := nn p
          split <;> omega
        generalize hH5 : upd H4 R (.dT (cellK mm)) = H5 at *
        have lf3 : (mm.filter fun e => decide (0 < e.2)).length ≤ 3000 := by omega
        walk_at "st"
        intro v H6 F' fo lF' hv s6
        rw [ec] at fo
        exact q v H6 F' fo (by omega) hv (Same.trans sE s6)
end

/-! ### Trail.__init__, go_on, floor_at -/
structure TrlAt (K : PySem.W.Frag) (CR CS CT : Addr) (H : Hp) (t r a D Dc wl cl : Addr) (T : List (List Ent)) (z0 : WSt) (n : Nat) (m : CM) (w : Wk) (hs : Hist) : Prop where
  ob : ∃ dx tv fv wv, H t = some (.ins CT dx (trF tv fv wv r))
  rc : RecAt K CR CS H r a D Dc wl cl T z0 n m w hs
  tk : TrkR H wl T z0
theorem TrlAt.tr {K : PySem.W.Frag} {CR CS CT : Addr} {H : Hp} {t r a D Dc wl cl : Addr} {T : List (List Ent)} {z0 : WSt} {n : Nat} {m : CM} {w : Wk} {hs : Hist} (h : TrlAt K CR CS CT H t r a D Dc wl cl T z0 n m w hs) : TrAt K CR CT H t (wls T z0 (n + 1)) := by
  obtain ⟨dx, tv, fv, wv, e⟩ := h.ob
  exact ⟨dx, tv, fv, wv, r, e, h.rc.wl⟩
theorem RecAt.same {K : PySem.W.Frag} {CR CS : Addr} {H H' : Hp} {r a D Dc wl cl : Addr} {T : List (List Ent)} {z0 : WSt} {n : Nat} {m : CM} {w : Wk} {hs : Hist} (h : RecAt K CR CS H r a D Dc wl cl T z0 n m w hs) (s : Same H H') : RecAt K CR CS H' r a D Dc wl cl T z0 n m w hs := by
  obtain ⟨dxr, us, uc, h1, h2, h3, h4, h5⟩ := h.ob
  have tk := Same.tk s
  refine ⟨⟨dxr, us, uc, s _ _ h1, s _ _ h2, TpAll.mono tk _ _ h3, s _ _ h4, h5⟩, h.str.same s, h.run, ⟨s _ _ h.his.dc, h.his.nd, fun e he => ?_⟩, h.ok, h.wc, h.ne, h.nda, h.lm, h.lh, h.ll, h.dd⟩
  obtain ⟨us, g1, g2⟩ := h.his.ls e he
  exact ⟨us, s _ _ g1, TpAll.mono tk _ _ g2⟩
theorem TrlAt.same {K : PySem.W.Frag} {CR CS CT : Addr} {H H' : Hp} {t r a D Dc wl cl : Addr} {T : List (List Ent)} {z0 : WSt} {n : Nat} {m : CM} {w : Wk} {hs : Hist} (h : TrlAt K CR CS CT H t r a D Dc wl cl T z0 n m w hs) (s : Same H H') : TrlAt K CR CS CT H' t r a D Dc wl cl T z0 n m w hs := by
  obtain ⟨dx, tv, fv, wv, e⟩ := h.ob
  obtain ⟨us, g1, g2⟩ := h.tk
  exact ⟨⟨dx, tv, fv, wv, s _ _ e⟩, h.rc.same s, us, s _ _ g1, g2.mono (Same.tk s)⟩
/-- the walker that walker_at gives -/
theorem TrlAt.trk {K : PySem.W.Frag} {CR CS CT : Addr} {H : Hp} {t r a D Dc wl cl : Addr} {T : List (List Ent)} {z0 y : WSt} {n : Nat} {m : CM} {w : Wk} {hs : Hist} {k : Nat} {v : V} (h : TrlAt K CR CS CT H t r a D Dc wl cl T z0 n m w hs) (hy : runW T (k + 1) z0 = some y)
    (g : ∀ dx tv fv wv r dx2 sv wl cl cv us, H t = some (.ins CT dx (trF tv fv wv r)) → H r = some (.ins CR dx2 (recF sv wl cl cv)) → H wl = some (.lst us) → us[k + 1]? = some v) : Trk H v y.2 := by
  obtain ⟨dx, tv, fv, wv, e⟩ := h.ob
  obtain ⟨dxr, us, uc, h1, h2, h3, h4, h5⟩ := h.rc.ob
  obtain ⟨us', g1, g2⟩ := h.tk
  have z := g2 k v (g _ _ _ _ _ _ _ _ _ _ _ e h1 g1)
  rw [hy] at z
  exact z
def spTInit (K : PySem.W.Frag) (CR CS CT : Addr) : Sp := fun vs H Q _ => ∃ (t dx : Addr) (tv fv wv : V) (c n : Nat) (T : List (List Ent)) (F : List Sq) (w : Wk), vs = [.ref t, tv, fv, wv] ∧ H t = some (.ins CT dx []) ∧ Tp K H tv (tabD T) ∧ Tp K H fv (floorD F) ∧ Tp K H wv (wkD w) ∧ StandOk c n FarI T F w ∧ F.length ≤ 100 ∧
  ∀ (r a D Dc wl cl : Addr) (hs : Hist) H', TrlAt K CR CS CT H' t r a D Dc wl cl T (colF F, w) 0 (cellsOf F) w hs → KeepE [t] H H' → Q .non H'
def spTFloor (K : PySem.W.Frag) (CR CS CT : Addr) : Sp := fun vs H Q _ => ∃ (t r a D Dc wl cl : Addr) (T : List (List Ent)) (z0 y : WSt) (n j : Nat) (m : CM) (w : Wk) (hs : Hist), vs = [.ref t, .int (j : Int)] ∧ TrlAt K CR CS CT H t r a D Dc wl cl T z0 n m w hs ∧ j ≤ n ∧ n ≤ 800 ∧ runW T j z0 = some y ∧ (∀ p, 0 ≤ y.1 p) ∧
  ∀ v H' F', FloorOf y.1 F' → F'.length ≤ 1000 → Tp K H' v (floorD F') → Same H H' → Q v H'
theorem trF1 {tv fv : V} : putF "floor" fv ([("table", tv)] : List (Str × V)) = ([("table", tv), ("floor", fv)] : List (Str × V)) := recP (ns := ["table"]) rfl (by decide +kernel)
theorem trF2 {tv fv wv : V} : putF "walker" wv ([("table", tv), ("floor", fv)] : List (Str × V)) = ([("table", tv), ("floor", fv), ("walker", wv)] : List (Str × V)) := recP (ns := ["table", "floor"]) rfl (by decide +kernel)
theorem trF3 {tv fv wv rv : V} : putF "record" rv ([("table", tv), ("floor", fv), ("walker", wv)] : List (Str × V)) = ([("table", tv), ("floor", fv), ("walker", wv), ("record", rv)] : List (Str × V)) := recP (ns := ["table", "floor", "walker"]) rfl (by decide +kernel)
theorem RecAt.offT {K : PySem.W.Frag} {CR CS CT : Addr} {H H' : Hp} {t dx r a D Dc wl cl : Addr} {tv fv wv : V} {T : List (List Ent)} {z0 : WSt} {n : Nat} {m : CM} {w : Wk} {hs : Hist} (h : RecAt K CR CS H r a D Dc wl cl T z0 n m w hs) (ht : H t = some (.ins CT dx [("table", tv), ("floor", fv), ("walker", wv)])) (k : KeepE [t] H H') (tk : TK H H') : RecAt K CR CS H' r a D Dc wl cl T z0 n m w hs := by
  obtain ⟨dxr, us, uc, h1, h2, h3, h4, h5⟩ := h.ob
  obtain ⟨⟨dxs, tv2, gv, wv2, hx, q1, q2, q3⟩, hD, nd, nz⟩ := id h.str
  have rt : r ≠ t := fun z => by
    rw [z, ht] at h1
    injection h1 with h1
    injection h1 with _ _ h1
    have g : ("table" : Str) = "stroll" := congrArg Prod.fst (List.cons.inj h1).1
    exact absurd g (by decide +kernel)
  have at_ : a ≠ t := fun z => by
    rw [z, ht] at hx
    injection hx with hx
    injection hx with _ _ hx
    have g : ("floor" : Str) = "ground" := congrArg Prod.fst (List.cons.inj (List.cons.inj hx).2).1
    exact absurd g (by decide +kernel)
  have keep : ∀ {b : Addr} {o : HO}, b ≠ t → H b = some o → H' b = some o := fun n e => k _ _ (fun z => n (List.mem_singleton.mp z)) e
  have lk : ∀ {b : Addr} {us : List V}, H b = some (.lst us) → H' b = some (.lst us) := fun e => keep (ne_of e ht (by intro z; cases z)) e
  refine ⟨⟨dxr, us, uc, keep rt h1, lk h2, TpAll.mono tk _ _ h3, lk h4, h5⟩, ⟨⟨dxs, tv2, gv, wv2, keep at_ hx, Tp.mono tk _ _ q1, Tp.mono tk _ _ q2, Tp.mono tk _ _ q3⟩, keep (ne_of hD ht (by intro z; cases z)) hD, nd, nz⟩, h.run, ⟨keep (ne_of h.his.dc ht (by intro z; cases z)) h.his.dc, h.his.nd, fun e he => ?_⟩, h.ok, h.wc, h.ne, h.nda, h.lm, h.lh, h.ll, h.dd⟩
  obtain ⟨us, g1, g2⟩ := h.his.ls e he
  exact ⟨us, lk g1, TpAll.mono tk _ _ g2⟩
section
variable {P : Program} {w : World} {K : PySem.W.Frag} {mg : Str → Option Value} {base : Heap}
local macro_rules | `(tactic| walk_at "cl") => `(tactic| first | (refine le_only ?_; omega) | (refine lt_only ?_; omega))
theorem ok_Trail_floor (T : Txt K mg) {CR CS CT : Addr} (SR : ClsR K mg CR) (S : ClsT K mg CT) (C_check_number : Cal P w K mg base CX0 "check_number" 2 ["value", "least", "greatest"] spNumberOk) (TLn : MCal P w K mg base CT "length" 2 ["self"] (spTLen K CR CT)) (RF : MCal P w K mg base CR "floor_behind" 2 ["self", "step"] (spRFloor K CR CS)) (M : MetAt K CT "floor_at" "Trail.floor_at" s_Trail_floor_at ["self", "step"]) : MCal P w K mg base CT "floor_at" 3 ["self", "step"] (spTFloor K CR CS CT) := by
  obtain ⟨f, fd, me, F, b⟩ := M.meth
  refine ⟨f, fd, me, F.ok sc_Trail_floor_at (fun vs H Q E h => ?_) (fun cdv A outer s H vs Q E hr h => ?_), b⟩
  · obtain ⟨t, r, a, D, Dc, wl, cl, Tb, z0, y, n, j, m, wk, hs, rfl, _⟩ := h
    rfl
  · obtain ⟨t, r, a, D, Dc, wl, cl, Tb, z0, y, n, j, m, wk, hs, rfl, hT, jn, n8, hy, nn, q⟩ := h
    refine ⟨_, (pss_cons (ps_expr (pe_own C_check_number hr (by first | decide | omega) (pa_cons (pv 1) (pa_cons pe_int (pa_cons (pe_ownM0 TLn S.cl hr (by decide) (pv 0)) pa_nil)))))
      (pss_one (ps_ret (pe_ownM RF SR.cl hr (by decide) (k_fld (K := K) (pv 0) (by rfl)) (pa_cons (pv 1) pa_nil))))), ?_⟩
    have hTr := hT.tr
    obtain ⟨dx, tv, fv, wv, ht⟩ := hT.ob
    have cl1 := S.cl
    have nR := S.nR
    have clR := SR.cl
    have fR : (trF tv fv wv r).lookup ("record" : Str) = some (.ref r) := tlkR
    have hR := hT.rc
    obtain ⟨dx2, us, uc, hr1, hwl, hus, hcl, luc⟩ := id hR.ob
    have noW : (recF (.ref a) wl cl (.ref Dc)).lookup ("floor_behind" : Str) = none := rno (by decide +kernel)
    have noL : (trF tv fv wv r).lookup ("length" : Str) = none := tno (by decide +kernel)
    have lw := wls_len Tb z0 (n + 1)
    walk_at "st"
    exact q
theorem ok_Trail_init (T : Txt K mg) {CR CS CT : Addr} (SR : ClsR K mg CR) (S : ClsT K mg CT) (mkR : PySem.W.makesIn K CR = true) (kpR : PySem.W.keepIn K (.ref CR) = true) (C_check_stand : Cal P w K mg base CX0 "check_stand" 5 ["table", "floor", "walker"] (spStand K)) (RI : MCal P w K mg base CR "__init__" 4 ["self", "table", "floor", "walker"] (spRInit K CR CS)) (M : MetAt K CT "__init__" "Trail.__init__" s_Trail_init ["self", "table", "floor", "walker"]) : MCal P w K mg base CT "__init__" 6 ["self", "table", "floor", "walker"] (spTInit K CR CS CT) := by
  obtain ⟨f, fd, me, F, b⟩ := M.meth
  refine ⟨f, fd, me, F.ok sc_Trail_init (fun vs H Q E h => ?_) (fun cdv A outer s H vs Q E hr h => ?_), b⟩
  · obtain ⟨t, dx, tv, fv, wv, c, n, Tb, Fl, wk, rfl, _⟩ := h
    rfl
  · obtain ⟨t, dx, tv, fv, wv, c, n, Tb, Fl, wk, rfl, ht1, ht, hf, hw, sok, hl, q⟩ := h
    refine ⟨_, (pss_cons (ps_expr (pe_own C_check_stand hr (by first | decide | omega) (pa_cons (pv 1) (pa_cons (pv 2) (pa_cons (pv 3) pa_nil)))))
      (pss_cons (k_sfld (K := K) (pv 0) (pv 1) (by rfl))
      (pss_cons (k_sfld (K := K) (pv 0) (pv 2) (by rfl))
      (pss_cons (k_sfld (K := K) (pv 0) (pv 3) (by rfl))
      (pss_one (k_sfld (K := K) (pv 0) (pe_ownMk RI mkR kpR hr (by decide) SR.mgC (pa_cons (pv 1) (pa_cons (pv 2) (pa_cons (pv 3) pa_nil)))) (by rfl))))))), ?_⟩
    have cl1 := S.cl
    have nT := S.nT
    have nF := S.nF
    have nW := S.nW
    have nR := S.nR
    have lF1 : Fl.length ≤ 1000 := by omega
    walk_at "st"
    intro H1 s1
    have ht2 := s1 _ _ ht1
    have l0 : ([] : List (Str × V)).length < 1000 := by decide
    walk_at "st"
    have he2 : (upd (upd (upd H1 t (.ins CT dx (putF "table" tv []))) t (.ins CT dx (putF "floor" fv (putF "table" tv [])))) t (.ins CT dx (putF "walker" wv (putF "floor" fv (putF "table" tv []))))) t = some (.ins CT dx [("table", tv), ("floor", fv), ("walker", wv)]) := by
      rw [upd_same]
      show some (HO.ins CT dx (putF "walker" wv (putF "floor" fv [("table", tv)]))) = _
      rw [trF1, trF2]
    have k2 : KeepE [t] H1 (upd (upd (upd H1 t (.ins CT dx (putF "table" tv []))) t (.ins CT dx (putF "floor" fv (putF "table" tv [])))) t (.ins CT dx (putF "walker" wv (putF "floor" fv (putF "table" tv []))))) := ((KeepE.put List.mem_cons_self).trans (KeepE.put List.mem_cons_self)).trans (KeepE.put List.mem_cons_self)
    generalize hH2 : (upd (upd (upd H1 t (.ins CT dx (putF "table" tv []))) t (.ins CT dx (putF "floor" fv (putF "table" tv [])))) t (.ins CT dx (putF "walker" wv (putF "floor" fv (putF "table" tv []))))) = H2 at *
    have t2 : TK H H2 := (Same.tk s1).trans (tkS (Soft.ins ht2) k2)
    intro x dxr nx ndx nex
    have s3 : Same H2 (upd (upd H2 dxr (.own x)) x (.ins CR dxr [])) := fun b o e => by
      rw [upd_ne (ne_of_none e nx), upd_ne (ne_of_none e ndx)]
      exact e
    have hx3 : (upd (upd H2 dxr (.own x)) x (.ins CR dxr [])) x = some (.ins CR dxr []) := upd_same
    generalize hH3 : upd (upd H2 dxr (.own x)) x (.ins CR dxr []) = H3 at s3 hx3
    have t3 := t2.trans (Same.tk s3)
    have asc := sok.fl.asc
    have nz : ∀ s ∈ Fl, s.2.2 ≠ 0 := fun s h => by
      have := (sok.fl.sq s h).2
      omega
    refine ⟨x, dxr, tv, fv, wv, Tb, Fl, wk, rfl, hx3, Tp.mono t3 _ _ ht, Tp.mono t3 _ _ hf, Tp.mono t3 _ _ hw, asc, nz, hl, fun a D Dc wl cl hs H4 R4 k4 => ⟨rfl, ?_⟩⟩
    have nxt : x ≠ t := (ne_of_none he2 nx).symm
    have he4 : H4 t = some (.ins CT dx [("table", tv), ("floor", fv), ("walker", wv)]) := k4 _ _ (fun z => nxt (List.mem_singleton.mp z).symm) (s3 _ _ he2)
    have l3 : ([("table", tv), ("floor", fv), ("walker", wv)] : List (Str × V)).length < 1000 := by show 3 < 1000; decide
    walk_at "st"
    have he5 : (upd H4 t (.ins CT dx (putF "record" (.ref x) [("table", tv), ("floor", fv), ("walker", wv)]))) t = some (.ins CT dx (trF tv fv wv x)) := by rw [upd_same, trF3]
    have k5 : KeepE [t] H4 (upd H4 t (.ins CT dx (putF "record" (.ref x) [("table", tv), ("floor", fv), ("walker", wv)]))) := KeepE.put List.mem_cons_self
    have T5 : TrkR (upd H4 t (.ins CT dx (putF "record" (.ref x) [("table", tv), ("floor", fv), ("walker", wv)]))) wl Tb (colF Fl, wk) := by
      obtain ⟨dxr, us, uc, h1, h2, h3, h4, h5⟩ := id R4.ob
      refine ⟨us, k5 _ _ (fun z => ne_of h2 he4 (by intro z; cases z) (List.mem_singleton.mp z)) h2, fun k u hk => ?_⟩
      have g := TpAll.length h3
      rw [List.length_map, wls_len] at g
      have g2 := (List.getElem?_eq_some_iff.mp hk).1
      omega
    refine q x a D Dc wl cl hs _ ⟨⟨dx, tv, fv, wv, he5⟩, R4.offT he4 k5 (tkS (Soft.ins he4) k5), T5⟩ ?_
    have s3k : KeepE [t] H H4 := fun b o nb e => by
      have e3 := s3 _ _ (k2 _ _ nb (s1 _ _ e))
      refine k4 _ _ (fun z => ?_) e3
      have e2 := k2 _ _ nb (s1 _ _ e)
      rw [List.mem_singleton.mp z, nx] at e2
      cases e2
    exact s3k.trans k5
end
theorem nx_ofT {D : L2.Ends} {σ : L2.St} {H : Hp} (h : D.nx σ H) : tNext D σ H := h
def spTGo (K : PySem.W.Frag) (CR CS CT : Addr) : Sp := fun vs H Q _ => ∃ (t r a D Dc wl cl : Addr) (T : List (List Ent)) (z0 : WSt) (n c nn : Nat) (m : CM) (w : Wk) (hs : Hist) (B many : Int), vs = [.ref t, .int many] ∧ TrlAt K CR CS CT H t r a D Dc wl cl T z0 n m w hs ∧ TabOk c nn T ∧ Fit c nn B z0 ∧ 0 ≤ many ∧ (n : Int) + many ≤ 800 ∧ (∀ j : Nat, (j : Int) < n + many → ∀ y, runW T j z0 = some y → stepW T y ≠ none) ∧
  ∀ (n' : Nat) (m' : CM) (w' : Wk) (hs' : Hist) H', (n' : Int) = n + many → TrlAt K CR CS CT H' t r a D Dc wl cl T z0 n' m' w' hs' → KeepE (recE a D Dc wl cl hs) H H' → Q .non H'
section
variable {P : Program} {w : World} {K : PySem.W.Frag} {mg : Str → Option Value} {base : Heap}
local macro_rules | `(tactic| walk_at "cl") => `(tactic| first | (refine le_only ?_; omega) | (refine lt_only ?_; omega))
theorem ok_Trail_go (T : Txt K mg) {CR CS CT : Addr} (SR : ClsR K mg CR) (S : ClsT K mg CT) (C_check_number : Cal P w K mg base CX0 "check_number" 2 ["value", "least", "greatest"] spNumberOk) (TLn : MCal P w K mg base CT "length" 2 ["self"] (spTLen K CR CT)) (RLs : MCal P w K mg base CR "lasts" 4 ["self", "step"] (spLasts K CR CS)) (M : MetAt K CT "go_on" "Trail.go_on" s_Trail_go_on ["self", "many"]) : MCal P w K mg base CT "go_on" 5 ["self", "many"] (spTGo K CR CS CT) := by
  obtain ⟨f, fd, me, F, b⟩ := M.meth
  refine ⟨f, fd, me, F.ok sc_Trail_go_on (fun vs H Q E h => ?_) (fun cdv A outer s H vs Q E hr h => ?_), b⟩
  · obtain ⟨t, r, a, D, Dc, wl, cl, Tb, z0, n, c, nn, m, wk, hs, B, many, rfl, _⟩ := h
    rfl
  · obtain ⟨t, r, a, D, Dc, wl, cl, Tb, z0, n, c, nn, m, wk, hs, B, many, rfl, hT, tab, fit, h0, h8, alive, q⟩ := h
    refine ⟨_, (pss_cons (ps_expr (pe_own C_check_number hr (by first | decide | omega) (pa_cons (pv 1) (pa_cons pe_int (pa_cons (pe_gint (by rfl) T.most_kept) pa_nil)))))
      (pss_cons (ps_if (pt_cmpR op_gt (pe_op op_add (pe_ownM0 TLn S.cl hr (by decide) (pv 0)) (pv 1)) (pe_gint (by rfl) T.most_kept) (nomark _)) (pss_one ps_never) pss_nil)
      (pss_one (ps_if (pt_not (pt_val (pe_ownM RLs SR.cl hr (by decide) (k_fld (K := K) (pv 0) (by rfl)) (pa_cons (pe_op op_add (pe_ownM0 TLn S.cl hr (by decide) (pv 0)) (pv 1)) pa_nil)))) (pss_one ps_never) pss_nil)))), ?_⟩
    have hTr := hT.tr
    obtain ⟨dx, tv, fv, wv, ht⟩ := hT.ob
    have cl1 := S.cl
    have nR := S.nR
    have clR := SR.cl
    have fR : (trF tv fv wv r).lookup ("record" : Str) = some (.ref r) := tlkR
    have hR := hT.rc
    have hTK := hT.tk
    obtain ⟨dx2, us, uc, hr1, hwl, hus, hcl, luc⟩ := id hR.ob
    have noW : (recF (.ref a) wl cl (.ref Dc)).lookup ("lasts" : Str) = none := rno (by decide +kernel)
    have noL : (trF tv fv wv r).lookup ("length" : Str) = none := tno (by decide +kernel)
    have lw := wls_len Tb z0 (n + 1)
    walk_at "st"
    rw [lw]
    refine ite2 (fun e => absurd (of_decide_eq_true e) (by
      show ¬ (20000 : Int) < ((n + 1 : Nat) : Int) - 1 + many
      omega)) (fun _ => ?_)
    refine nx_ofT ?_
    have es : ((n + 1 : Nat) : Int) - 1 + many = (n : Int) + many := by omega
    have b0 : (0 : Int) ≤ (n : Int) + many := by omega
    have b1 : (n : Int) ≤ (n : Int) + many := by omega
    walk_at "st"
    rw [lw, es]
    intro b n' m' w' hs' H' R' T' hc k
    have tout : t ∉ recE a D Dc wl cl hs := fun y => by
      obtain ⟨⟨dxs, tv2, gv, wv2, hx, _⟩, hD, _⟩ := id hR.str
      rcases List.mem_append.mp y with y | y
      · rcases List.mem_cons.mp y with y | y
        · rw [← y, ht] at hx
          injection hx with hx
          injection hx with _ _ hx
          have g : ("floor" : Str) = "ground" := congrArg Prod.fst (List.cons.inj (List.cons.inj hx).2).1
          exact absurd g (by decide +kernel)
        · rcases List.mem_cons.mp y with y | y
          · exact ne_of ht hD (by intro z; cases z) y
          · rcases List.mem_cons.mp y with y | y
            · exact ne_of ht hR.his.dc (by intro z; cases z) y
            · rcases List.mem_cons.mp y with y | y
              · exact ne_of ht hwl (by intro z; cases z) y
              · exact ne_of ht hcl (by intro z; cases z) (List.mem_singleton.mp y)
      · obtain ⟨e, he, y⟩ := List.mem_map.mp y
        obtain ⟨us', r1, _⟩ := hR.his.ls e he
        exact ne_of ht r1 (by intro z; cases z) y.symm
    rcases hc with ⟨rfl, en⟩ | ⟨rfl, en, st⟩
    · refine ⟨true, rfl, iteF ?_⟩
      exact nx_ofT (q n' m' w' hs' H' en ⟨⟨dx, tv, fv, wv, k _ _ tout ht⟩, R', T'⟩ k)
    · exact absurd st (alive n' en _ R'.run)
end

/-! ### for k in d.keys(), the keys tuples -/
def iKeysMT (td : TE) : TI := fun σ H R => td σ H fun x H1 => ∃ d o kvs, x = .ref d ∧ H1 d = some (.frz o (.dT kvs)) ∧ R (Itkt d o kvs) H1
theorem pi_keysMT {X : Cx} {tg e : Expr} {td : TE} {apos cpos : Pos} (he : PE X e td) (hbase : attributeBase e "keys" X.env (eval e X.env) = eval e X.env := by rfl) (hline : (apos.endLine == cpos.line) = true := by rfl) : PI X tg (.Call (.Attribute e "keys" apos) [] [] cpos) (iKeysMT td) := by
  refine ⟨fun pins s σ H R I h => ?_⟩
  refine wpAny_Call_method (T := "dict") (id := "dict.keys") hbase rfl hline F.plainAttrs_dict F.slot_dict_keys F.type_dict_keys (thn (he.run pins s σ H _ I h) fun u s1 ⟨x, H1, I1, rx, d, o, kvs, ex, hd, q⟩ => ?_)
  subst ex
  obtain rfl : u = Value.ref d := rx
  obtain ⟨hs, hgd, hx, es, ep, hdt, hsz, ent⟩ := I1.frzT hd
  have raw : s1.heap.DictRaw d es ep := ⟨o, hgd, hx, hdt⟩
  refine ⟨raw.typeIs, fun b e => ?_, ?_⟩
  · injection e with e
    subst e
    exact ⟨o, hgd, hx.2.1⟩
  have I2 : Inv X pins σ H1 { s1 with heap := s1.heap.push { cls := .type "dict_keys", data := .fields #[.ref d] } } := I1.kept (t' := s1.toks) fun b ob q => Heap.get?_push_of_some _ q
  have fin : wpAny (model X.prog X.w) X.A (pyIter (.ref s1.heap.objs.size)) (PIE X pins σ tg R) X.xe { s1 with heap := s1.heap.push { cls := .type "dict_keys", data := .fields #[.ref d] } } := by
    refine wpAny_pyIter_keys_raw (d := d) (es := es) (ep := ep) ⟨_, Heap.get?_push_size _ rfl, rfl, rfl⟩ (raw.at fun ob e => Heap.get?_push_of_some _ e) (pi_one (tk := s1.toks) I2 _ (turn_keysT _ hdt) ⟨_, Heap.get?_push_size _ rfl, rfl, ?_⟩ q)
    rw [hsz] <;> rfl
  show wpAny _ _ (callWith cpos (.builtin "dict.keys") [.ref d] [] []) _ X.xe s1
  exact method_meetsIn F.slot_dict_keys F.entry_dict_keys rfl (PySem.evalArgs_none ⟨rfl, raw.typeIs, F.args_dict_keys_1 _, _, meets_dict_keys_raw d hs, ⟨es, ep, raw⟩, fin⟩)

/-! ### len(set(..)) of a few nested tuples that are all unlike -/
mutual
def nkOf : PyData → NestedKey
  | .int i => .num i
  | .bool b => .num (if b = true then 1 else 0)
  | .str x => .text x
  | .tuple ds => .tup (nkAll ds)
  | _ => .none
def nkAll : List PyData → List NestedKey
  | [] => []
  | d :: ds => nkOf d :: nkAll ds
end
mutual
def numK : NestedKey → Bool
  | .num _ => true
  | .tup ks => numKs ks
  | _ => false
def numKs : List NestedKey → Bool
  | [] => true
  | k :: ks => numK k && numKs ks
end
section
variable {X : Cx} {pins : List (Addr × Obj)} {σ : L2.St} {H : Hp} {s : Shared}
mutual
theorem nk_is (I : Inv X pins σ H s) : ∀ (d : PyData) (v : V) (u : Value), Tp X.K H v d → RelV v u → NestedIs s.heap (nkOf d) u
  | .none, _, u, h, r => by
    cases h
    obtain rfl : u = Value.none := r
    exact .none
  | .bool b, _, u, h, r => by
    cases h
    obtain rfl : u = Value.bool b := r
    exact .bool rfl
  | .int i, _, u, h, r => by
    cases h
    obtain ⟨t, rfl⟩ : ∃ t, u = Value.int i t := r
    exact .int i t
  | .str x, _, u, h, r => by
    cases h
    obtain ⟨t, rfl⟩ : ∃ t, u = Value.str x t := r
    exact .text x t
  | .list ds, _, _, h, _ => by cases h
  | .dict _, _, _, h, _ => by cases h
  | .tuple ds, _, u, h, r => by
    cases h with
    | tup hs ha =>
      obtain rfl : u = Value.ref _ := r
      obtain ⟨its, rv, ⟨o, ho, hc, n, hd⟩, _⟩ := I.tuple hs
      exact .tup ho hc hd (nk_all I ds _ its ha rv)
theorem nk_all (I : Inv X pins σ H s) : ∀ (ds : List PyData) (vs : List V) (us : List Value), TpAll X.K H vs ds → Vals vs us → NestedAll s.heap (nkAll ds) us
  | [], _, us, h, r => by
    cases h
    cases r
    exact .nil
  | d :: ds, _, us, h, r => by
    cases h with
    | cons h1 h2 =>
      cases r with
      | cons r1 r2 => exact .cons (nk_is I d _ _ h1 r1) (nk_all I ds _ _ h2 r2)
end
end
section
variable {P : Program} {w : World} {A : Around} {E : Value → Shared → Prop} {s : Shared}
/-- what is asked of an object behind a number of levels is answered by b and changes nothing -/
def Ans (P : Program) (w : World) (f : Value → Sem Bool) (b : Bool) (s : Shared) (v : Value) : Prop := ∀ (A : Around) (E : Value → Shared → Prop) (Q : Bool → Shared → Prop), Q b s → wpAny (model P w) A (f v) Q E s
mutual
theorem nk_noClass : ∀ (k : NestedKey) (v : Value) (n : Nat) (s : Shared), NestedIs s.heap k v → k.depth ≤ n → Ans P w (ofAClassStatement n) false s v
  | .none, _, n, s, x, _ => by
    cases x
    intro A E Q h
    cases n <;> exact wpAny_pure h
  | .num i, _, n, s, x, _ => by
    intro A E Q h
    cases x <;> cases n <;> exact wpAny_pure h
  | .text y, _, n, s, x, _ => by
    cases x
    intro A E Q h
    cases n <;> exact wpAny_pure h
  | .tup ks, _, n, s, x, dn => by
    cases x with
    | @tup b o items m _ ho hc hd hk =>
      simp only [NestedKey.depth] at dn
      obtain ⟨n, rfl⟩ : ∃ m, n = m + 1 := ⟨n - 1, by omega⟩
      intro A E Q h
      have hT : s.TypeIs (.ref b) "tuple" := ⟨o, ho, hc⟩
      unfold ofAClassStatement
      refine wpAny_bind (wpAny_typeOf hT ?_)
      dsimp only
      have e : (("tuple" : String) == "tuple") = true := by decide
      simp only [e, if_true, Bool.not_true, Bool.false_eq_true, if_false]
      try refine wpAny_bind (wpAny_pure ?_)
      try simp only [Bool.not_true, Bool.false_eq_true, if_false]
      show wpAny _ _ (seqItems? (.ref b) >>= _) _ _ s
      refine wpAny_bind (wpAny_seqItems ho hd ?_)
      dsimp only
      refine wpAny_bind ?_
      show wpAny _ _ (forIn items _ _) _ _ s
      rw [← Array.forIn_toList]
      refine wpAny_forIn_list _ (fun rest r s2 => r.1 = none ∧ s2 = s ∧ ∀ v ∈ rest, Ans P w (ofAClassStatement n) false s v) _ ?_ ?_ _ _ ⟨rfl, rfl, nk_noClassAll ks _ n s hk (by omega)⟩
      · rintro v rest r s2 ⟨hr, rfl, hall⟩
        refine wpAny_bind (hall v List.mem_cons_self _ _ _ ?_)
        simp only [Bool.false_eq_true, if_false]
        exact wpAny_pure ⟨rfl, rfl, fun u hu => hall u (List.mem_cons_of_mem _ hu)⟩
      · rintro ⟨r1, r2⟩ s2 ⟨hr, rfl, _⟩
        simp only at hr
        subst hr
        exact wpAny_pure h
theorem nk_noClassAll : ∀ (ks : List NestedKey) (vs : List Value) (n : Nat) (s : Shared), NestedAll s.heap ks vs → NestedKey.depthAll ks ≤ n → ∀ v ∈ vs, Ans P w (ofAClassStatement n) false s v
  | [], _, n, s, x, _, v, hv => by
    cases x
    cases hv
  | k :: ks, _, n, s, x, dn, v, hv => by
    cases x with
    | cons x1 x2 =>
      simp only [NestedKey.depthAll] at dn
      rcases List.mem_cons.mp hv with e | hv
      · rw [e]
        exact nk_noClass k _ n s x1 (by omega)
      · exact nk_noClassAll ks _ n s x2 (by omega) v hv
end
mutual
theorem nk_byVal : ∀ (k : NestedKey) (v : Value) (n : Nat) (s : Shared), NestedIs s.heap k v → numK k = true → k.depth ≤ n → Ans P w (hashByValue n) true s v
  | .none, _, n, s, x, z, _ => by cases z
  | .num i, _, n, s, x, _, _ => by
    intro A E Q h
    cases x <;> cases n <;> exact wpAny_pure h
  | .text y, _, n, s, x, z, _ => by cases z
  | .tup ks, _, n, s, x, z, dn => by
    cases x with
    | @tup b o items m _ ho hc hd hk =>
      simp only [NestedKey.depth] at dn
      obtain ⟨n, rfl⟩ : ∃ m, n = m + 1 := ⟨n - 1, by omega⟩
      intro A E Q h
      have hT : s.TypeIs (.ref b) "tuple" := ⟨o, ho, hc⟩
      unfold hashByValue
      refine wpAny_bind (wpAny_specialOf hT F.slot_tuple_hash.lookup ?_)
      show wpAny _ _ (seqItems? (.ref b) >>= _) _ _ s
      refine wpAny_bind (wpAny_seqItems ho hd ?_)
      refine wpAny_bind ?_
      show wpAny _ _ (forIn items _ _) _ _ s
      rw [← Array.forIn_toList]
      refine wpAny_forIn_list _ (fun rest r s2 => r.1 = none ∧ s2 = s ∧ ∀ v ∈ rest, Ans P w (hashByValue n) true s v) _ ?_ ?_ _ _ ⟨rfl, rfl, nk_byValAll ks _ n s hk z (by omega)⟩
      · rintro v rest r s2 ⟨hr, rfl, hall⟩
        refine wpAny_bind (hall v List.mem_cons_self _ _ _ ?_)
        simp only [Bool.not_true, Bool.false_eq_true, if_false]
        exact wpAny_pure ⟨rfl, rfl, fun u hu => hall u (List.mem_cons_of_mem _ hu)⟩
      · rintro ⟨r1, r2⟩ s2 ⟨hr, rfl, _⟩
        simp only at hr
        subst hr
        exact wpAny_pure h
theorem nk_byValAll : ∀ (ks : List NestedKey) (vs : List Value) (n : Nat) (s : Shared), NestedAll s.heap ks vs → numKs ks = true → NestedKey.depthAll ks ≤ n → ∀ v ∈ vs, Ans P w (hashByValue n) true s v
  | [], _, n, s, x, _, _, v, hv => by
    cases x
    cases hv
  | k :: ks, _, n, s, x, z, dn, v, hv => by
    cases x with
    | cons x1 x2 =>
      simp only [NestedKey.depthAll] at dn
      simp only [numKs, Bool.and_eq_true] at z
      rcases List.mem_cons.mp hv with e | hv
      · rw [e]
        exact nk_byVal k _ n s x1 z.1 (by omega)
      · exact nk_byValAll ks _ n s x2 z.2 (by omega) v hv
end
/-- a key of numbers, of at most eight levels, that lies at an address -/
structure NAt (h : Heap) (p : Addr × NestedKey) : Prop where
  is : NestedIs h p.2 (.ref p.1)
  num : numK p.2 = true
  low : p.2.depth ≤ 8
theorem NAt.on {h h' : Heap} {p : Addr × NestedKey} (x : NAt h p) (k : ∀ a o vs n, h.get? a = some o → o.data = .seq vs n → h'.get? a = some o) : NAt h' p := ⟨NestedIs.at k _ _ x.is, x.num, x.low⟩
theorem NAt.same {h h' : Heap} {p : Addr × NestedKey} {a : Addr} {o : Obj} {es : Array (Int × Value)} {ep : Nat} {t : SetTable} (x : NAt h p) (ho : h.get? a = some o) (hd : o.data = .set es ep t) (sb : Heap.SameBut a h h') : NAt h' p := x.on fun b ob vs n e d => by
  refine (sb.2 b fun z => ?_).trans e
  rw [z, ho] at e
  obtain rfl := Option.some.inj e
  rw [hd] at d
  cases d
theorem nk_unseen {p : Addr × NestedKey} {Q : Bool → Shared → Prop} (hp : NAt s.heap p) {ys : List Value} (hy : ∀ y ∈ ys, ∃ q, y = Value.ref q.1 ∧ NAt s.heap q) (h : Q false s) : wpAny (model P w) A (searchCouldBeSeen (.ref p.1) ys) Q E s := by
  unfold searchCouldBeSeen
  refine wpAny_bind ?_
  refine wpAny_forIn_list _ (fun rest r s2 => r.1 = none ∧ s2 = s ∧ ∀ y ∈ rest, ∃ q, y = Value.ref q.1 ∧ NAt s.heap q) _ ?_ ?_ _ _ ⟨rfl, rfl, hy⟩
  · rintro v rest r s2 ⟨hr, rfl, hall⟩
    obtain ⟨q, rfl, hq⟩ := hall v List.mem_cons_self
    have rest2 : ∀ y ∈ rest, ∃ q, y = Value.ref q.1 ∧ NAt s2.heap q := fun u hu => hall u (List.mem_cons_of_mem _ hu)
    dsimp only
    by_cases hv : (p.1 == q.1 || (carriedByValue (.ref p.1) && carriedByValue (.ref q.1))) = true
    · refine wp_if_pos hv ?_
      exact wpAny_pure ⟨rfl, rfl, rest2⟩
    · refine wp_if_neg hv ?_
      refine wpAny_bind (quiet_key _ _ 8 _ hp.is hp.low _ _ _ ?_)
      simp only [Bool.not_true, Bool.false_eq_true, if_false]
      refine wpAny_bind (quiet_key _ _ 8 _ hq.is hq.low _ _ _ ?_)
      simp only [Bool.not_true, Bool.false_eq_true, if_false]
      refine wpAny_bind (nk_noClass _ _ 8 _ hp.is hp.low _ _ _ ?_)
      simp only [Bool.false_eq_true, if_false]
      refine wpAny_bind (nk_noClass _ _ 8 _ hq.is hq.low _ _ _ ?_)
      simp only [Bool.false_eq_true, if_false]
      exact wpAny_pure ⟨rfl, rfl, rest2⟩
  · rintro ⟨r1, r2⟩ s2 ⟨hr, rfl, _⟩
    simp only at hr
    subst hr
    exact wpAny_pure h
abbrev nkRows (w : World) (L : List (Addr × NestedKey)) : List (Int × Value) := L.map fun p => (p.2.hash w, Value.ref p.1)
abbrev nkHs (w : World) (L : List (Addr × NestedKey)) : List Int := L.map fun p => p.2.hash w
/-- a small set of unlike keys -/
structure SetN (w : World) (h : Heap) (a : Addr) (L : List (Addr × NestedKey)) (es : Array (Int × Value)) (ep : Nat) (t : SetTable) : Prop where
  obj : ∃ o, h.get? a = some o ∧ o.ExactSet ∧ o.data = .set es ep t
  rws : es.toList = nkRows w L
  tb : L2.TabOk t (nkHs w L)
  at_ : ∀ p ∈ L, NAt h p
  pl : t.plain = true
  m7 : t.mask = 7
  few : L.length ≤ 4
variable {a : Addr} {L : List (Addr × NestedKey)} {es : Array (Int × Value)} {ep : Nat} {t : SetTable}
theorem SetN.sz {h : Heap} (R : SetN w h a L es ep t) : es.size = L.length := by
  have z := congrArg List.length R.rws
  rw [Array.length_toList, List.length_map] at z
  exact z
theorem SetN.fit {h : Heap} (R : SetN w h a L es ep t) : t.fits es.size = true := by
  have z1 := R.tb.sz
  rw [List.length_map] at z1
  have z2 := R.sz
  have z3 := R.few
  have z4 := R.m7
  unfold SetTable.fits SetTable.fill
  rw [R.tb.dm, Bool.and_eq_true, beq_iff_eq, decide_eq_true_eq]
  show t.place.size = es.size ∧ t.place.size + 0 ≤ t.mask
  omega
theorem SetN.row {h : Heap} (R : SetN w h a L es ep t) {i : Nat} {p : Addr × NestedKey} (e : L[i]? = some p) : es[i]? = some (p.2.hash w, Value.ref p.1) := by
  rw [← Array.getElem?_toList, R.rws, List.getElem?_map, e]
  rfl
theorem SetN.stays {h : Heap} (R : SetN w h a L es ep t) : ¬ t.gaveWay = true := by
  unfold SetTable.gaveWay
  rw [mask_odd R.tb.mok]
  decide
/-- the search of a new key -/
theorem nk_search (R : SetN w s.heap a L es ep t) {p : Addr × NestedKey} (hp : NAt s.heap p) (new : ∀ q ∈ L, q.2 ≠ p.2) (hu : A.units + 8 < cLine) {K : Nat} (hKf : K < 10 * SetTable.turns t.mask) (hK : way t.mask (p.2.hash w) K ∉ t.place.toList) (hKb : ∀ c, c < K → way t.mask (p.2.hash w) c ∈ t.place.toList)
    {Q : SetFound → Shared → Prop} (fin : Q (.free (way t.mask (p.2.hash w) K) false) s) : ∀ (f c : Nat) (stand : Option SetTable.Probe),
      stand.getD (t.probeStart (p.2.hash w)) = nth t.mask (runAt t.mask (SetTable.bits (p.2.hash w) % (t.mask + 1)) (SetTable.bits (p.2.hash w))) c → c ≤ K → K - c < f → wpAny (model P w) A (setSearchFrom a (.ref p.1) (p.2.hash w) true f stand) Q E s
  | 0, c, stand, _, _, hf => absurd hf (Nat.not_lt_zero _)
  | f + 1, c, stand, hst, hc, hf => by
    obtain ⟨o, ho, hex, hd⟩ := R.obj
    generalize hh : p.2.hash w = h at *
    generalize hr : runAt t.mask (SetTable.bits h % (t.mask + 1)) (SetTable.bits h) = run at *
    rw [setSearchFrom_succ]
    refine wpAny_bind (wpAny_setState_of ho hd R.fit ?_)
    dsimp only
    refine wp_if_neg R.stays ?_
    try refine wpAny_bind (wpAny_pure ?_)
    have noD : (nth t.mask run c).dummy = none := by
      have key : ∀ (n : Nat) (x : SetTable.Probe), x.dummy = none → (nth t.mask x n).dummy = none := by
        intro n
        induction n with
        | zero => exact fun x z => z
        | succ n ih =>
          intro x z
          refine ih (adv t.mask x) ?_
          unfold adv
          split <;> exact z
      refine key c _ ?_
      rw [← hr]
      rfl
    have sh : ∀ q, nth t.mask (nth t.mask run c) q = nth t.mask run (c + q) := fun q => (nth_add t.mask c _ q).symm
    have e1 : ∀ q, (nth t.mask (nth t.mask run c) q).j = way t.mask h (c + q) := fun q => by
      rw [sh q, ← hr]
    have spec := go_spec t R.tb.ris R.tb.dm (fun i => (es[i]?.map (·.1)).getD 0) h (10 * SetTable.turns t.mask) (K - c) _ noD (by omega) (fun q hq => by rw [e1]; exact hKb (c + q) (by omega)) (by rw [e1, show c + (K - c) = K by omega]; exact hK)
    rcases spec with ⟨q, i, hq, hi, _, _, hpr⟩ | ⟨_, hpr⟩
    · have hpr2 : t.probe (fun i => (es[i]?.map (·.1)).getD 0) h (stand.getD (t.probeStart h)) = some (.candidate (way t.mask h (c + q)) i (nth t.mask run (c + (q + 1)))) := by
        rw [hst, ← e1, ← sh]
        exact hpr
      rw [hpr2]
      dsimp only
      rw [e1] at hi
      have il : i < L.length := by
        have z1 : i < t.place.toList.length := (List.getElem?_eq_some_iff.mp hi).1
        have z2 := R.tb.sz
        rw [List.length_map] at z2
        rw [Array.length_toList] at z1
        omega
      have hL : L[i]? = some L[i] := List.getElem?_eq_getElem il
      generalize L[i] = y at hL
      have ym : y ∈ L := List.mem_of_getElem? hL
      have yt := R.at_ y ym
      have ne := new y ym
      have sl : t.slot (way t.mask h (c + q)) = .live i := slot_live R.tb.ris hi
      have rest : wpAny (model P w) A (searchRest a (.ref p.1) h true f es t (way t.mask h (c + q)) i (nth t.mask run (c + (q + 1)))) Q E s := by
        unfold searchRest
        rw [R.row hL]
        dsimp only
        refine wpAny_bind (wpAny_holding ((nestedKind P w).eqBool (x := y.2) (y := p.2) hu ⟨yt.is, yt.low⟩ ⟨hp.is, hp.low⟩ ?_))
        refine wpAny_bind (wpAny_setState_of ho hd R.fit ?_)
        dsimp only
        refine wp_if_neg (by simp [ne]) ?_
        try refine wpAny_bind (wpAny_pure ?_)
        rw [sameMem]
        dsimp only
        simp only [if_true, sl, R.row hL]
        refine wpAny_bind (wpAny_isSame_ref_self (wpAny_bind (wpAny_pure ?_)))
        simp only [if_true]
        refine wp_if_neg (by simp [ne]) ?_
        have again := nk_search R hp new hu hKf (by rw [hh]; exact hK) (by rw [hh]; exact hKb) (by rw [hh]; exact fin) f (c + (q + 1)) (some (nth t.mask run (c + (q + 1)))) (by rw [hh, hr]; rfl) (by omega) (by omega)
        rw [hh] at again
        exact again
      by_cases hl : t.led = true
      · refine wp_if_neg (by simp [hl]) ?_
        try refine wpAny_bind (wpAny_pure ?_)
        exact rest
      · refine wp_if_pos (by simp [hl]) ?_
        refine wpAny_bind (nk_unseen hp (fun y hy => ?_) ?_)
        · obtain ⟨e, he, ee⟩ := List.mem_map.mp hy
          have he1 : e ∈ es ∧ e.1 = h := by simpa using he
          have he2 : e ∈ es.toList := by simpa using he1.1
          rw [R.rws] at he2
          obtain ⟨p2, hp2, e2⟩ := List.mem_map.mp he2
          exact ⟨p2, by rw [← ee, ← e2], R.at_ p2 hp2⟩
        · refine wp_if_neg (by decide) ?_
          try refine wpAny_bind (wpAny_pure ?_)
          exact rest
    · have hpr2 : t.probe (fun i => (es[i]?.map (·.1)).getD 0) h (stand.getD (t.probeStart h)) = some (.empty (way t.mask h K) none) := by
        have e2 : way t.mask h K = (nth t.mask (nth t.mask run c) (K - c)).j := by rw [e1, show c + (K - c) = K by omega]
        rw [hst, e2]
        exact hpr
      rw [hpr2]
      dsimp only
      exact wpAny_pure fin
theorem nk_free (R : SetN w s.heap a L es ep t) {p : Addr × NestedKey} (hp : NAt s.heap p) (new : ∀ q ∈ L, q.2 ≠ p.2) (hu : A.units + 8 < cLine) {Q : SetFound → Shared → Prop}
    (fin : ∀ K, way t.mask (p.2.hash w) K ∉ t.place.toList → (∀ c, c < K → way t.mask (p.2.hash w) c ∈ t.place.toList) → Q (.free (way t.mask (p.2.hash w) K) false) s) : wpAny (model P w) A (setSearch a (.ref p.1) (p.2.hash w) true) Q E s := by
  have few := R.few
  have m7 := R.m7
  obtain ⟨K, hKf, hK, hKb⟩ := R.tb.first (by rw [List.length_map]; omega) (p.2.hash w)
  have big : K < 100000 := by
    have : 10 * SetTable.turns t.mask ≤ 1420 := by
      unfold SetTable.turns
      omega
    omega
  unfold setSearch
  exact nk_search R hp new hu hKf hK hKb (fin K hK hKb) 100000 0 none rfl (Nat.zero_le _) (by omega)
/-- a new key goes in -/
theorem nk_add (R : SetN w s.heap a L es ep t) {p : Addr × NestedKey} (hp : NAt s.heap p) (new : ∀ q ∈ L, q.2 ≠ p.2) (hu : A.units + 8 < cLine) (few : L.length < 4) {Q : Bool → Shared → Prop}
    (fin : ∀ h' L' es' ep' t', Heap.SameBut a s.heap h' → SetN w h' a L' es' ep' t' → L'.Perm (p :: L) → Q true { s with heap := h' }) : wpAny (model P w) A (setAddHashed a (.ref p.1) (p.2.hash w)) Q E s := by
  obtain ⟨o, ho, hex, hd⟩ := R.obj
  have hsz := R.sz
  have m7 := R.m7
  unfold setAddHashed
  refine wpAny_holding ?_
  rw [show (100000 : Nat) = 99999 + 1 from rfl, setAddHashedIn_succ]
  refine wpAny_bind (wpAny_setState_of ho hd R.fit ?_)
  dsimp only
  refine wp_if_neg (by simp [byScan, Value.scannable]) ?_
  try refine wpAny_bind (wpAny_pure ?_)
  refine wpAny_bind (nk_free R hp new hu fun K hK hb => ?_)
  dsimp only
  refine wpAny_bind (wpAny_setState_of ho hd R.fit ?_)
  dsimp only
  obtain ⟨q1, q2, q3, q4, q5, q6, q7, q8, q9⟩ := R.tb.put hK hb
  have hp1 : (t.put (way t.mask (p.2.hash w) K)).1.plain = true := by rw [q6]; exact R.pl
  generalize hpt : t.put (way t.mask (p.2.hash w) K) = pt at q1 q3 q4 q5 q6 q7 q8 q9 hp1 ⊢
  obtain ⟨t1, b⟩ := pt
  dsimp only at q1 q3 q4 q5 q6 q7 q8 q9 hp1 ⊢
  subst q1
  first
    | (refine wpAny_bind ?_; refine wp_if_pos hp1 ?_; refine nk_byVal _ _ 8 _ hp.is hp.num hp.low _ _ _ ?_)
    | refine wp_if_pos hp1 (wpAny_bind (nk_byVal _ _ 8 _ hp.is hp.num hp.low _ _ _ ?_))
  simp only [if_true]
  generalize hbb : SetTable.below t.place (way t.mask (p.2.hash w) K) = b at q2 q3 ⊢
  have hin : (SetTable.insertAt es b (p.2.hash w, Value.ref p.1)).toList = nkRows w (L.take b ++ p :: L.drop b) := by
    rw [SetTable.toList_insertAt, R.rws]
    show (L.map _).take b ++ _ :: (L.map _).drop b = (L.take b ++ p :: L.drop b).map _
    rw [List.map_append, List.map_cons, List.map_take, List.map_drop]
  have pm := put_perm L b p
  have hlen : (L.take b ++ p :: L.drop b).length = L.length + 1 := pm.length_eq
  have hhs : nkHs w (L.take b ++ p :: L.drop b) = (nkHs w L).take b ++ p.2.hash w :: (nkHs w L).drop b := by
    show (L.take b ++ p :: L.drop b).map _ = (L.map _).take b ++ _ :: (L.map _).drop b
    rw [List.map_append, List.map_cons, List.map_take, List.map_drop]
  rw [← hhs] at q3
  have hes : (SetTable.insertAt es b (p.2.hash w, Value.ref p.1)).size = L.length + 1 := by
    have z := congrArg List.length hin
    rw [Array.length_toList, List.length_map, hlen] at z
    exact z
  generalize SetTable.insertAt es b (p.2.hash w, Value.ref p.1) = es1 at hin hes ⊢
  generalize L.take b ++ p :: L.drop b = L1 at pm hlen q3 hin
  refine wpAny_bind (wpAny_storeSet_of ho hd ?_ (by rw [hes, sizeLine_eq]; omega))
  have sb : Heap.SameBut a s.heap (s.heap.update a (Obj.putSet es1 t1)) := Heap.SameBut.update ..
  have ho1 := store_at (es' := es1) (t' := t1) ho hd
  generalize s.heap.update a (Obj.putSet es1 t1) = h1 at sb ho1 ⊢
  have full : ¬ t1.tooFull = true := fun z => by
    unfold SetTable.tooFull at z
    rw [decide_eq_true_eq, q9, List.length_map, q4, m7] at z
    omega
  first
    | refine wp_if_neg (by simp [full]) ?_
    | (refine wpAny_bind ?_; refine wp_if_neg (by simp [full]) ?_; refine wpAny_pure ?_)
  refine wpAny_pure (fin h1 L1 es1 (ep + 1) t1 sb ⟨⟨_, ho1, ⟨hex.1, hex.2.1, hex.2.2⟩, rfl⟩, hin, q3, fun q hq => ?_, hp1, by rw [q4]; exact m7, by omega⟩ pm)
  rcases List.mem_cons.mp (pm.mem_iff.mp hq) with e | hq
  · rw [e]
    exact hp.same ho hd sb
  · exact (R.at_ q hq).same ho hd sb
/-- an empty set, just made -/
abbrev bareSet (w : World) : Obj := { cls := .type "set", dict := none, data := .set #[] 0 (.fresh 0 0 (!w.params.followText "set-order")) }
theorem setN_none {h : Heap} (e : h.get? a = some (bareSet w)) : SetN w h a [] #[] 0 (.fresh 0 0 (!w.params.followText "set-order")) where
  obj := ⟨_, e, ⟨rfl, rfl, rfl⟩, rfl⟩
  rws := rfl
  tb := ⟨List.Pairwise.nil, rfl, rfl, .inl rfl, fun x hx => (by cases hx), fun i h j hi => (by simp at hi)⟩
  at_ := fun p hp => (by cases hp)
  pl := rfl
  m7 := rfl
  few := by decide
theorem SetN.on {h h' : Heap} (R : SetN w h a L es ep t) (ka : ∀ o, h.get? a = some o → h'.get? a = some o) (kt : ∀ p ∈ L, NAt h' p) : SetN w h' a L es ep t := by
  obtain ⟨o, ho, r⟩ := R.obj
  exact ⟨⟨o, ka o ho, r⟩, R.rws, R.tb, kt, R.pl, R.m7, R.few⟩
theorem take_up {α : Type} {l : List α} {i : Nat} {x : α} (h : l[i]? = some x) : (l.take (i + 1)).Perm (x :: l.take i) := by
  rw [List.take_succ, h]
  exact List.perm_append_comm
theorem nk_fill {it : Addr} {fp wr : List Addr} {G : Array GenState → Array GenState → Prop} {n : Nat} {Pv : Nat → Value → Prop} {St : Nat → Shared → Prop} {R : Result → Shared → Prop} (W : WalksS P w A.in1 it fp wr G n Pv St) (a : Addr) (nf : a ∉ fp) (ks : List (Addr × NestedKey)) (hn : n = ks.length) (few : ks.length ≤ 4) (nd : (ks.map (·.2)).Nodup)
    (vals : ∀ i v, Pv i v → ∃ p, ks[i]? = some p ∧ v = .ref p.1) (h0 : Heap) (hk : ∀ p ∈ ks, NAt h0 p) (ha0 : h0.get? a = none) (hw0 : ∀ b ∈ wr, h0.get? b = none) (hu : A.in1.units + 8 < cLine) : ∀ (k i : Nat) (s : Shared), n - i = k → i ≤ n → St i s → (∀ b o, h0.get? b = some o → s.heap.get? b = some o) → (∃ L es ep t, SetN w s.heap a L es ep t ∧ L.Perm (ks.take i)) →
      (∀ s' L es ep t, Moved (a :: wr) G s s' → SetN w s'.heap a L es ep t → L.Perm ks → (∀ b o, h0.get? b = some o → s'.heap.get? b = some o) → R (.ok (.ret .none)) s') → codeAny (model P w) A (.builtin "set.update.loop" ⟨[.ref a, .ref it], []⟩) R s := by
  have nw : a ∉ wr := fun h => nf (W.sub _ h)
  have up : ∀ b ∈ wr, b ∈ a :: wr := fun b hb => List.mem_cons_of_mem _ hb
  have kM : ∀ {s s' : Shared}, Moved wr G s s' → (∀ b o, h0.get? b = some o → s.heap.get? b = some o) → ∀ b o, h0.get? b = some o → s'.heap.get? b = some o := fun mv hkp b o e => mv.heap b o (fun hb => by rw [hw0 b hb] at e; cases e) (hkp b o e)
  intro k
  induction k with
  | zero =>
    intro i s _ hi st kp ⟨L, es, ep, t, hS, g⟩ fin
    obtain rfl : i = n := by omega
    refine codeAny_builtin F.entry_set_update_loop ?_
    rw [Around.under_plainId F.plain_set_update_loop _]
    show wpAny _ A.in1 (pyNext (.ref it) >>= _) _ _ s
    refine wpAny_bind (W.done s _ _ st fun s' mv => ?_)
    show wpAny _ A.in1 (ret Value.none) _ _ s'
    have kp2 := kM mv kp
    have sub : ∀ p ∈ L, p ∈ ks := fun p hp => List.mem_of_mem_take (g.mem_iff.mp hp)
    refine wpAny_pure (fin s' L es ep t (mv.mono up) (hS.on (fun o e => mv.heap a o nw e) fun p hp => (hk p (sub p hp)).on fun b o _ _ e _ => kp2 b o e) ?_ kp2)
    rw [hn, List.take_length] at g
    exact g
  | succ k ih =>
    intro i s _ hi st kp ⟨L, es, ep, t, hS, g⟩ fin
    have lt : i < n := by omega
    refine codeAny_builtin F.entry_set_update_loop ?_
    rw [Around.under_plainId F.plain_set_update_loop _]
    show wpAny _ A.in1 (pyNext (.ref it) >>= _) _ _ s
    refine wpAny_bind (W.item i s _ _ lt st fun v s' hP st2 mv => ?_)
    obtain ⟨p, hp, rfl⟩ := vals i v hP
    have kp2 := kM mv kp
    have sub : ∀ p ∈ L, p ∈ ks := fun p hp => List.mem_of_mem_take (g.mem_iff.mp hp)
    have hS2 : SetN w s'.heap a L es ep t := hS.on (fun o e => mv.heap a o nw e) fun q hq => (hk q (sub q hq)).on fun b o _ _ e _ => kp2 b o e
    have hx : NAt s'.heap p := (hk p (List.mem_of_getElem? hp)).on fun b o _ _ e _ => kp2 b o e
    have new : ∀ q ∈ L, q.2 ≠ p.2 := fun q hq e => by
      have hm := g.mem_iff.mp hq
      obtain ⟨j, hj⟩ := List.getElem?_of_mem hm
      have jl : j < (ks.take i).length := (List.getElem?_eq_some_iff.mp hj).1
      have ji : j < i := by
        rw [List.length_take] at jl
        omega
      rw [List.getElem?_take_of_lt ji] at hj
      have a1 : (ks.map (·.2))[j]? = some p.2 := by rw [List.getElem?_map, hj, ← e]; rfl
      have a2 : (ks.map (·.2))[i]? = some p.2 := by rw [List.getElem?_map, hp]; rfl
      have z := (List.getElem?_inj (List.getElem?_eq_some_iff.mp a1).1 nd).mp (a1.trans a2.symm)
      omega
    have ll : L.length = i := by
      rw [g.length_eq, List.length_take]
      omega
    show wpAny _ A.in1 (holding [Value.ref p.1] (setAdd a (.ref p.1)) >>= _) _ _ s'
    refine wpAny_bind (wpAny_holding ?_)
    unfold setAdd
    refine wpAny_holding ?_
    refine wpAny_bind ((nestedKind P w).pyHash (k := p.2) hu ⟨hx.is, hx.low⟩ ?_)
    refine nk_add (s := { s' with toks := s'.toks + (nestedKind P w).draws p.2 }) hS2 hx new hu (by omega) fun h' L' es' ep' t' sb hS3 pm => ?_
    have kp3 : ∀ b o, h0.get? b = some o → h'.get? b = some o := fun b o e => (sb.2 b (fun z => by rw [z, ha0] at e; cases e)).trans (kp2 b o e)
    refine wpAny_pure ⟨plainId_quiet F.plain_set_update_loop _, ih (i + 1) _ (by omega) lt (W.frame _ s' _ _ st2 (Nat.le_add_right _ _) fun b hb o e => ?_) kp3 ⟨L', es', ep', t', hS3, pm.trans ((g.cons p).trans (take_up hp).symm)⟩ fun s'' L2 es2 ep2 t2 mv2 hS4 g2 kp4 => ?_⟩
    · rw [sb.2 b (fun z : b = a => nf (by rw [← z]; exact hb))]
      exact e
    · refine fin s'' L2 es2 ep2 t2 (Moved.trans W.gtrans ((mv.mono up).then_heap (Nat.le_add_right _ _) fun b o hb e => ?_) mv2) hS4 g2 kp4
      rw [sb.2 b (fun z : b = a => hb (by rw [z]; exact List.mem_cons_self))]
      exact e
set_option maxHeartbeats 3200000 in
theorem call_set_nk {l : Addr} {items : Array Value} (ks : List (Addr × NestedKey)) {Q : Value → Shared → Prop} (calm : A.handled = none) (hl : s.heap.IsList l items) (hi : items.toList = ks.map fun p => Value.ref p.1) (hk : ∀ p ∈ ks, NAt s.heap p) (few : ks.length ≤ 4) (nd : (ks.map (·.2)).Nodup) (hu : A.units + 12 < cLine)
    (fin : ∀ (h' : Heap) (tk : Nat) L es ep t, SetN w h' s.heap.objs.size L es ep t → L.Perm ks → (∀ b o, s.heap.get? b = some o → h'.get? b = some o) → Q (.ref s.heap.objs.size) { s with heap := h', toks := tk }) : wpAny (model P w) A (call (.type "set") [.ref l]) Q E s := by
  have isz : items.size = ks.length := by
    have z := congrArg List.length hi
    rw [Array.length_toList, List.length_map] at z
    exact z
  obtain ⟨c, tl, m0⟩ := F.called_set.mro
  have m1 := F.called_set.made
  have m2 := F.called_set.sub
  refine wpAny_call (codeAny_of_tree ?_)
  show wpAny _ _ (callAny (.type "set") _) _ _ _
  refine wpAny_pure ⟨Code.quiet_builtin _ (by decide +kernel), codeAny_builtin F.entry_type_call ?_⟩
  rw [Around.under_plain (weight_type_call_type "set" [.ref l] []) rfl]
  have m3 := F.called_set.notType
  have m4 := F.called_set.canCreate
  have m5 := F.typeCall_set_1 (.ref l)
  repeat (any_goals (first | assumption | wp_step))
  refine codeAny_mono (code_set_led1 (.ref l) (E := E) (Q₁ := fun obj s₁ => obj = .ref s.heap.objs.size ∧ s₁ = { s with heap := s.heap.push (bareSet w) }) ⟨rfl, rfl⟩) fun r s₁ hr => ?_
  cases r with
  | error e => exact hr
  | ok fl =>
    cases fl with
    | ret obj =>
      obtain ⟨rfl, rfl⟩ := hr
      have at0 : (s.heap.push (bareSet w)).get? s.heap.objs.size = some (bareSet w) := Heap.get?_push_size _ rfl
      have ty0 : Shared.TypeIs { s with heap := s.heap.push (bareSet w) } (.ref s.heap.objs.size) "set" := ⟨_, at0, rfl⟩
      have n1 := F.called_set.init.lookup
      have n2 := F.called_set.init.bind (.ref s.heap.objs.size)
      repeat (any_goals (first | assumption | wp_step))
      refine codeAny_mono (codeAny_call_builtin (R := wants (fun r s₂ => r = .none ∧ ∃ h' tk L es ep t, s₂ = { s with heap := h', toks := tk } ∧ SetN w h' s.heap.objs.size L es ep t ∧ L.Perm ks ∧ ∀ b o, s.heap.get? b = some o → h'.get? b = some o) E) F.called_set.init.plain F.entry_set_init (check_set_init_1 ty0 ?_)) fun r₂ s₂ hr₂ => ?_
      · obtain ⟨⟨oc, od, odt, osl⟩, ol, c1, nl, c2⟩ := hl
        simp only at c1 c2
        subst c1
        subst c2
        have ol2 : (s.heap.push (bareSet w)).get? l = some { cls := .type "list", dict := od, data := .seq items nl, slots := osl } := Heap.get?_push_of_some _ ol
        have u1 := F.sub_list_set
        have u2 := F.sub_list_frozenset
        have u3 : (Value.type "list" == Value.type "dict") = false := by decide
        have li : (s.heap.push (bareSet w)).IsList l items := ⟨_, ol2, rfl, nl, rfl⟩
        unfold Builtin.«set.__init__» noKeywords Builtin.Frozenset.updateFrom
        generalize ePI : pyIter = PI
        wp_walk
        subst ePI
        refine wpAny_pyIter_list li (wpAny_bind (wpAny_runValue ?_))
        have lS : l < s.heap.objs.size := Heap.lt_size ol
        have calm3 : A.in1.in1.in1.handled = none := by simp [calm]
        have nI : l ≠ (s.heap.push (bareSet w)).objs.size := by rw [Heap.size_push]; exact Nat.ne_of_lt (Nat.lt_succ_of_lt lS)
        have nS : s.heap.objs.size ∉ [(s.heap.push (bareSet w)).objs.size, l] := by
          rw [Heap.size_push]
          simp only [List.mem_cons, List.not_mem_nil, or_false, not_or]
          exact ⟨Nat.ne_of_lt (Nat.lt_succ_self _), Nat.ne_of_gt lS⟩
        have vals : ∀ (i : Nat) (v : Value), items[i]? = some v → ∃ p, ks[i]? = some p ∧ v = .ref p.1 := fun i v hv => by
          have z : items.toList[i]? = some v := by rw [Array.getElem?_toList]; exact hv
          rw [hi, List.getElem?_map] at z
          obtain ⟨p, e1, e2⟩ := Option.map_eq_some_iff.mp z
          exact ⟨p, e1, e2.symm⟩
        have none_of : ∀ b, s.heap.objs.size ≤ b → s.heap.get? b = none := fun b hb => by
          cases z : s.heap.get? b with
          | none => rfl
          | some o => exact absurd (Nat.lt_of_lt_of_le (Heap.lt_size z) hb) (Nat.lt_irrefl _)
        refine nk_fill ((Walks.list calm3 _ l nI items).toS) s.heap.objs.size nS ks isz few nd vals s.heap hk (none_of _ (Nat.le_refl _)) (fun b hb => none_of b (by
          rw [List.mem_singleton.mp hb, Heap.size_push]
          exact Nat.le_succ _)) (by simp only [Around.in1_units]; omega) (items.size - 0) 0 _ (by omega) (Nat.zero_le _) ⟨⟨_, Heap.get?_push_size _ rfl, rfl, rfl⟩, li.push _⟩ (fun b o e => Heap.get?_push_of_some _ (Heap.get?_push_of_some _ e)) ⟨[], #[], 0, _, setN_none (Heap.get?_push_of_some _ at0), List.Perm.refl _⟩ ?_
        intro s' L es ep t mv hS g kp
        obtain ⟨h', g2, d', tk', os'⟩ := s'
        have eg : g2 = s.gens := mv.gens
        have ed : d' = s.drawn := mv.drawn
        have eo : os' = s.os := mv.os
        subst eg ed eo
        show wpAny _ _ _ _ _ _
        refine wpAny_pure ?_
        show wpAny _ _ (ret Value.none) _ _ _
        exact wpAny_pure ⟨rfl, h', tk', L, es, ep, t, rfl, hS, g, kp⟩
      · cases r₂ with
        | error e => exact hr₂
        | ok fl₂ =>
          cases fl₂ with
          | ret r =>
            obtain ⟨rfl, h', tk, L, es, ep, t, rfl, hS, g, kp⟩ := hr₂
            repeat (any_goals (first | assumption | wp_step))
            exact fin _ _ _ _ _ _ hS g kp
          | _ => exact hr₂.elim
    | _ => exact hr.elim
end
section
variable {X : Cx}
/-- len(set(xs)), xs a list of at most four nested tuples that are all unlike -/
def tLenSetN (K : PySem.W.Frag) (ta : TE) : TE := fun σ H Q => ta σ H fun x H1 => ∃ (l : Addr) (ks : List (Addr × PyData)), x = V.ref l ∧ SqL K H1 l (ks.map fun p => V.ref p.1) ∧ (∀ p ∈ ks, Tp K H1 (.ref p.1) p.2 ∧ numK (nkOf p.2) = true ∧ (nkOf p.2).depth ≤ 8) ∧ ks.length ≤ 4 ∧ (ks.map fun p => nkOf p.2).Nodup ∧ Q (.int ks.length) H1
theorem pe_lenSetN {a : Expr} {ta : TE} {p p2 q pos : Pos} (hc : X.calm = true) (hu : X.A.units + 64 < cLine) (hg : Gl X "len") (hm : X.mg "len" = none) (hg2 : Gl X "set") (hm2 : X.mg "set" = none) (ha : PE X a ta)
    (na : starEach [a] X.env = (false, eval a X.env) :: starEach [] X.env := by rfl) : PE X (.Call (.Name "len" p) [.Call (.Name "set" p2) [a] [] q] [] pos) (tLenSetN X.K ta) := by
  refine ⟨fun pins s σ H Q I h => ?_⟩
  refine Call_ (ld_blt I hg hm PySem.boot_len ?_)
  refine PyProof.Rows.callWith_builtin1 (PyProof.Rows.args_cons ?_ rfl) rfl rfl
  refine Call_ (ld_blt I hg2 hm2 PyProof.Rows.boot_set ?_)
  refine PyProof.Rows.callWith_type1 (PyProof.Rows.args_cons (thn (ha.run pins s σ H _ I h) fun v s1 ⟨x, H1, I1, r1, q1⟩ => PyProof.Rows.args_nil ?_) na) na rfl
  obtain ⟨l, ks, rfl, hq, ht, few, nd, q1⟩ := q1
  obtain rfl : v = Value.ref l := r1
  obtain ⟨its, r, pl, hz⟩ := I1.list hq
  have eits : its = ks.map fun p => Value.ref p.1 := by
    clear pl hz hq ht few nd q1
    induction ks generalizing its with
    | nil => cases r; rfl
    | cons k ks ih =>
      cases r with
      | cons r1 r2 =>
        obtain rfl := r1
        show _ :: _ = _ :: _
        rw [ih _ r2]
  refine call_set_nk (ks.map fun p => (p.1, nkOf p.2)) (I1.ok.hd hc) pl.isList (by rw [eits, List.map_map]; simp) (fun p hp => ?_) (by rw [List.length_map]; exact few) (by rw [List.map_map]; exact nd) (by omega) fun h' tk L es ep t R pm k => ?_
  · obtain ⟨d, hd, rfl⟩ := List.mem_map.mp hp
    obtain ⟨t1, t2, t3⟩ := ht d hd
    exact ⟨nk_is I1 d.2 _ _ t1 rfl, t2, t3⟩
  refine PyProof.Rows.args_nil ?_
  have I2 : Inv X pins σ H1 { s1 with heap := h', toks := tk } := I1.kept fun b o e => k b o e
  obtain ⟨o, ho, hex, hd⟩ := R.obj
  have e : es.size = ks.length := by rw [R.sz, pm.length_eq, List.length_map]
  refine call_len_set ho hex hd R.fit (by rw [e]; omega) ⟨.int ks.length, H1, I2.tok _, ⟨_, by rw [e]⟩, q1⟩
end

theorem TK.dT {H : Hp} {p : Addr} {kvs : List (List Key × V)} {o : HO} (h : H p = some (.dT kvs)) : TK H (upd H p o) := KeepE.tk (E := [p]) (KeepE.put List.mem_cons_self) fun b hb => by
  rw [List.mem_singleton.mp hb]
  exact Soft.dT h

/-! ### the law's floors and walkers -/
def spSigned (K : PySem.W.Frag) : Sp := fun vs H Q _ => ∃ (r : Addr) (most : Int), vs = [.ref r, .int most] ∧ Row K H r ∧ 0 ≤ most ∧ most < 2 ^ 200 ∧ ∀ (v : Int) (H' : Hp), -most ≤ v → v ≤ most → Row K H' r → KeepB r H H' → Q (.int v) H'
def spLWalker (K : PySem.W.Frag) : Sp := fun vs H Q _ => ∃ (r : Addr) (tv : V) (T : List (List Ent)), vs = [.ref r, tv] ∧ Row K H r ∧ Tp K H tv (tabD T) ∧ 1 ≤ T.length ∧ T.length ≤ 10 ∧ ∀ (v : V) (H' : Hp) (w : Wk), InB 3 (wPt w) → (0 ≤ w.2.2.1 ∧ w.2.2.1 < 4) → (0 ≤ w.2.2.2 ∧ w.2.2.2 < T.length) → Tp K H' v (wkD w) → Row K H' r → KeepB r H H' → Q v H'
def spLAhead (K : PySem.W.Frag) : Sp := fun vs H Q _ => ∃ (b : Addr) (x y h : Int), vs = [.ref b, .int h] ∧ SqT K H b [.int x, .int y] ∧ 0 ≤ h ∧ h < 4 ∧ ∀ p H', H' p = some (.tup [.int (x + dxI h), .int (y + dyI h)]) → Same H H' → Q (.ref p) H'
theorem dx_at {h : Int} (h0 : 0 ≤ h) (h1 : h < 4) : atI ([.int 0, .int 1, .int 0, .int (-1)] : List V) h = some (.int (dxI h)) ∧ atI ([.int (-1), .int 0, .int 1, .int 0] : List V) h = some (.int (dyI h)) := by
  obtain ⟨n, rfl⟩ := Int.eq_ofNat_of_zero_le h0
  have c : n = 0 ∨ n = 1 ∨ n = 2 ∨ n = 3 := by omega
  rcases c with rfl | rfl | rfl | rfl
  · exact ⟨at0, at0⟩
  · exact ⟨at1, at1⟩
  · exact ⟨at2, at2⟩
  · exact ⟨at3, at3⟩
section
variable {P : Program} {w : World} {K : PySem.W.Frag} {mg : Str → Option Value} {base : Heap}
theorem ok_law_signed (T : Txt K mg) (D : DefAt K mg "_law_signed" s_law_signed ["row", "most"]) (C_law_taken : Cal P w K mg base CX0 "_law_taken" 1 ["row", "many"] (spTaken K)) : Cal P w K mg base CX0 "_law_signed" 2 ["row", "most"] (spSigned K) := by
  refine D.cal sc_law_signed (fun vs H Q E h => ?_) (fun f cdv A outer s H vs Q E hr h => ?_)
  · obtain ⟨r, most, rfl, _⟩ := h
    rfl
  · obtain ⟨r, most, rfl, R, h0, h1, q⟩ := h
    refine ⟨_, (pss_one (ps_ret (pe_op op_sub (pe_own C_law_taken hr (by first | decide | omega) (pa_cons (pv 0) (pa_cons (pe_op op_add (pe_op op_mul pe_int (pv 1)) pe_int) pa_nil))) (pv 1)))), ?_⟩
    have hmul : CMul 2 most := .inl ⟨by decide, by decide⟩
    have b1 : 2 * most + 1 < 2 ^ 250 := by omega
    walk_at "st"
    intro v H' v0 v1 R' k'
    walk_at "st"
    exact q _ H' (by omega) (by omega) R' k'
theorem ok_law_walker (T : Txt K mg) (D : DefAt K mg "_law_walker" s_law_walker ["row", "table"]) (C_law_taken : Cal P w K mg base CX0 "_law_taken" 1 ["row", "many"] (spTaken K)) (C_law_signed : Cal P w K mg base CX0 "_law_signed" 2 ["row", "most"] (spSigned K)) : Cal P w K mg base CX0 "_law_walker" 3 ["row", "table"] (spLWalker K) := by
  refine D.cal sc_law_walker (fun vs H Q E h => ?_) (fun f cdv A outer s H vs Q E hr h => ?_)
  · obtain ⟨r, tv, T, rfl, _⟩ := h
    rfl
  · obtain ⟨r, tv, Tb, rfl, R, ht, l1, l10, q⟩ := h
    refine ⟨_, (pss_one (ps_ret (pe_tup (pa_cons (pe_own C_law_signed hr (by first | decide | omega) (pa_cons (pv 0) (pa_cons pe_int pa_nil))) (pa_cons (pe_own C_law_signed hr (by first | decide | omega) (pa_cons (pv 0) (pa_cons pe_int pa_nil))) (pa_cons (pe_own C_law_taken hr (by first | decide | omega) (pa_cons (pv 0) (pa_cons pe_int pa_nil))) (pa_cons (pe_own C_law_taken hr (by first | decide | omega) (pa_cons (pv 0) (pa_cons (pe_callB (k_len_t (K := K)) (by rfl) T.m_len (by decide +kernel) (pa_cons (pv 1) pa_nil)) pa_nil))) pa_nil))))))), ?_⟩
    walk_at "st"
    intro x H1 x0 x1 R1 k1
    walk_at "st"
    intro y H2 y0 y1 R2 k2
    walk_at "st"
    intro hd H3 d0 d1 R3 k3
    have k03 : KeepB r H H3 := (k1.trans k2).trans k3
    obtain ⟨a, vs, rfl, h1, h2⟩ := (Tp.mono (k03.row R) _ _ ht).tupI
    have hlen : vs.length = Tb.length := by rw [TpAll.length h2, List.length_map]
    have c1 : (0 : Int) < vs.length := by omega
    have c2 : (vs.length : Int) < 2 ^ 250 := by omega
    iterate 8 (first | (apply And.intro; (· walk_at "cl")) | apply Exists.intro)
    refine ⟨r, (vs.length : Int), rfl, R3, c1, c2, fun st H4 s0 s1 R4 k4 => ?_⟩
    walk_at "st"
    intro p np
    refine q (.ref p) _ (x, y, hd, st) ⟨⟨x0, x1⟩, y0, y1⟩ ⟨d0, d1⟩ ⟨s0, ?_⟩ (Tp.of_ints (ks := [x, y, hd, st]) (SqT.of upd_same)) (R4.new np) ((k03.trans k4).trans (KeepB.new np))
    show st < Tb.length
    omega
end

/-! ### the law's own floors -/
theorem sorted_keys {m : CM} {bs : List (Addr × List Int)} (nd : (m.map (·.1)).Nodup) (pm : (bs.map (·.2)).Perm (m.map fun e => [e.1.1, e.1.2])) (pw : bs.Pairwise fun x y => ltZ y.2 x.2 = false) :
    ∃ ps : List Pt, bs.map (·.2) = ps.map (fun p => [p.1, p.2]) ∧ ps.Pairwise ltP ∧ (∀ p, p ∈ ps ↔ p ∈ m.map (·.1)) ∧ ps.length = m.length := by
  have pm2 : (bs.map (·.2)).Perm ((m.map (·.1)).map fun p : Pt => [p.1, p.2]) := by
    rw [List.map_map]
    exact pm
  obtain ⟨ps, pp, ep⟩ := perm_lift (fun p : Pt => [p.1, p.2]) pm2 _ rfl
  have pwp : ps.Pairwise fun a b => ltZ [b.1, b.2] [a.1, a.2] = false := by
    have z : (bs.map (·.2)).Pairwise fun x y => ltZ y x = false := List.pairwise_map.mpr pw
    rw [← ep] at z
    exact List.pairwise_map.mp z
  have ndp : ps.Pairwise fun a b => a ≠ b := pp.nodup_iff.mpr nd
  refine ⟨ps, ep.symm, List.Pairwise.imp₂ (fun a b h1 h2 => ?_) pwp ndp, fun p => pp.mem_iff, by rw [pp.length_eq, List.length_map]⟩
  have h3 : ¬ (b.1 < a.1 ∨ (¬ a.1 < b.1 ∧ b.2 < a.2)) := fun z => by
    have e : ltZ [b.1, b.2] [a.1, a.2] = true := by
      show (decide (b.1 < a.1) || (!decide (a.1 < b.1) && (decide (b.2 < a.2) || (!decide (a.2 < b.2) && ltZ [] [])))) = true
      rcases z with z | ⟨z1, z2⟩
      · rw [decide_eq_true z]
        rfl
      · rw [decide_eq_false z1, decide_eq_true z2, Bool.or_eq_true]
        exact .inr rfl
    rw [e] at h1
    cases h1
  have h4 : ¬ (a.1 = b.1 ∧ a.2 = b.2) := fun z => h2 (Prod.ext z.1 z.2)
  show a.1 < b.1 ∨ (a.1 = b.1 ∧ a.2 < b.2)
  omega
def sqAt (m : CM) (p : Pt) : Sq := (p.1, p.2, col m p)
def fltF (m : CM) (ps : List Pt) : List Sq := (ps.filter fun p => decide (0 < col m p)).map (sqAt m)
theorem flt_floor {m : CM} {ps : List Pt} (asc : ps.Pairwise ltP) (mem : ∀ p, p ∈ ps ↔ p ∈ m.map (·.1)) (nn : ∀ p, 0 ≤ col m p) : FloorOf (col m) (fltF m ps) := by
  refine ⟨List.pairwise_map.mpr (asc.sublist (List.filter_sublist)), fun s => ?_⟩
  unfold fltF
  rw [List.mem_map]
  constructor
  · rintro ⟨p, hp, rfl⟩
    have h1 := of_decide_eq_true (List.mem_filter.mp hp).2
    refine ⟨rfl, ?_⟩
    show col m p ≠ 0
    omega
  · rintro ⟨h1, h2⟩
    refine ⟨s.pt, List.mem_filter.mpr ⟨(mem _).mpr ?_, decide_eq_true ?_⟩, ?_⟩
    · refine Classical.byContradiction fun z => ?_
      have e := look_none.mpr z
      unfold col at h1
      rw [e] at h1
      exact h2 h1
    · have := nn s.pt
      rw [h1] at h2
      omega
    · obtain ⟨x, y, k⟩ := s
      show (x, y, col m (x, y)) = (x, y, k)
      rw [show k = col m (x, y) from h1]
theorem flt_snoc (m : CM) (l : List Pt) (p : Pt) : fltF m (l ++ [p]) = fltF m l ++ (if 0 < col m p then [sqAt m p] else []) := by
  unfold fltF
  rw [List.filter_append, List.map_append]
  by_cases h : 0 < col m p
  · rw [if_pos h, show ([p].filter fun p => decide (0 < col m p)) = [p] from List.filter_cons_of_pos (decide_eq_true h)]
    rfl
  · rw [if_neg h, show ([p].filter fun p => decide (0 < col m p)) = [] from List.filter_cons_of_neg (fun z => h (of_decide_eq_true z))]
    rfl
theorem catA_of {K : PySem.W.Frag} {H : Hp} {a b : Addr} {xs ys : List V} {Q : VK} (ha : SqT K H a xs) (hb : SqT K H b ys) (h1 : xs ≠ []) (h2 : ys ≠ []) (hz : xs.length + ys.length ≤ sizeLine) (q : ∀ p, H p = none → Q (.ref p) (upd H p (.tup (xs ++ ys)))) : rCatA K (.ref a) (.ref b) H Q :=
  ⟨a, b, xs, ys, rfl, rfl, ha, hb, hz, fun z => absurd z h1, fun _ z => absurd z h2, fun _ _ => q⟩
theorem put_mem2 : ∀ {m : CM} {p : Pt} {c : Int} {e : Pt × Int}, e ∈ putM m p c → e ∈ m ∨ e = (p, c)
  | [], p, c, e, h => .inr (List.mem_singleton.mp h)
  | a :: r, p, c, e, h => by
    unfold putM at h
    by_cases q : a.1 = p
    · rw [if_pos q] at h
      rcases List.mem_cons.mp h with z | z
      · exact .inr (by rw [z, q])
      · exact .inl (List.mem_cons_of_mem _ z)
    · rw [if_neg q] at h
      rcases List.mem_cons.mp h with z | z
      · exact .inl (z ▸ List.mem_cons_self)
      · exact (put_mem2 z).imp (List.mem_cons_of_mem _) id
def spLFloor (K : PySem.W.Frag) : Sp := fun vs H Q _ => ∃ (c : Addr) (m : CM), vs = [.ref c] ∧ H c = some (.dT (cellK m)) ∧ (m.map (·.1)).Nodup ∧ (∀ p, 0 ≤ col m p) ∧ m.length ≤ 900 ∧ ∀ v H' F, FloorOf (col m) F → Tp K H' v (floorD F) → Same H H' → Q v H'
def spSomeFloor (K : PySem.W.Frag) : Sp := fun vs H Q _ => ∃ (r : Addr) (c : Nat) (mo : Int), vs = [.ref r, .int c, .int mo] ∧ Row K H r ∧ 2 ≤ c ∧ c ≤ 6 ∧ 0 ≤ mo ∧ mo ≤ 9 ∧ ∀ v H' F, FlOk c 3 F → F.length ≤ mo.toNat → Tp K H' v (floorD F) → Row K H' r → KeepB r H H' → Q v H'
theorem cell_keys (m : CM) : (cellK m).map (·.1) = (m.map fun e => [e.1.1, e.1.2]).map fun k : List Int => k.map Sum.inl := by
  unfold cellK
  rw [List.map_map, List.map_map]
  rfl
theorem look_some {m : CM} {p : Pt} (h : p ∈ m.map (·.1)) : look m p = some (col m p) := by
  unfold col
  cases e : look m p with
  | none => exact absurd h (look_none.mp e)
  | some x => rfl

section
variable {P : Program} {w : World} {K : PySem.W.Frag} {mg : Str → Option Value} {base : Heap}
end

section
variable {P : Program} {w : World} {K : PySem.W.Frag} {mg : Str → Option Value} {base : Heap}
theorem ok_law_some_floor (T : Txt K mg) (D : DefAt K mg "_law_some_floor" s_law_some_floor ["row", "colours", "most"]) (C_law_taken : Cal P w K mg base CX0 "_law_taken" 1 ["row", "many"] (spTaken K)) (C_law_signed : Cal P w K mg base CX0 "_law_signed" 2 ["row", "most"] (spSigned K)) : Cal P w K mg base CX0 "_law_some_floor" 3 ["row", "colours", "most"] (spSomeFloor K) := by
  refine D.cal sc_law_some_floor (fun vs H Q E h => ?_) (fun f cdv A outer s H vs Q E hr h => ?_)
  · obtain ⟨r, c, mo, rfl, _⟩ := h
    rfl
  · obtain ⟨r, c, mo, rfl, R, c2, c3, mo0, mo9, q⟩ := h
    have om0 : 0 < mo + 1 := by omega
    have om1 : mo + 1 < 2 ^ 250 := by omega
    refine ⟨_, (pss_cons (ps_set (i := 3) sc_law_some_floor.nd rfl (Or.inr rfl) pe_dnewT)
      (pss_cons (ps_for PassesOwn.never rfl (pi_range1 (by rfl) T.m_range (pa_cons (pe_own C_law_taken hr (by first | decide | omega) (pa_cons (pv 0) (pa_cons (pe_op op_add (pv 2) pe_int) pa_nil))) pa_nil)) (pg_name (i := 4) sc_law_some_floor.nd rfl (Or.inl rfl))
      (pss_one (ps_dput (hu_of hr) (pv 3) (pe_tup (pa_cons (pe_own C_law_signed hr (by first | decide | omega) (pa_cons (pv 0) (pa_cons pe_int pa_nil))) (pa_cons (pe_own C_law_signed hr (by first | decide | omega) (pa_cons (pv 0) (pa_cons pe_int pa_nil))) pa_nil))) (pe_op op_add pe_int (pe_own C_law_taken hr (by first | decide | omega) (pa_cons (pv 0) (pa_cons (pe_op op_sub (pv 1) pe_int) pa_nil)))) (by rfl))))
      (pss_one (ps_ret (pe_callTy (k_tuple_l (K := K)) (by rfl) T.m_tuple (by decide +kernel) (pa_cons (pe_lc (own := [("place", 5)]) (g := gName 5) rfl sc_law_some_floor.nd (k_pi_list (K := K) (pe_sKT rfl (by rfl) T.m_sorted (by decide +kernel) (pv 3))) (blkOk_by (by rfl)) (fun _ _ _ _ _ => (pg_name (i := 5) sc_law_some_floor.nd rfl (Or.inl rfl))) (fun _ _ _ _ _ => pts_nil) (fun _ _ _ _ _ => (pe_op (k_catA (K := K)) (pv 5) (pe_tup (pa_cons (pe_dget (hu_of hr) (pv 3) (pv 5) (fun _ _ => rfl)) pa_nil))))) pa_nil)))))), ?_⟩
    walk_at "st"
    intro D nD
    have neD := R.ne nD
    have R1 := R.new (o := .dT []) nD
    walk_at "st"
    intro n H1 n0 n7 R2 k2
    walk_at "st"
    have hD1 : H1 D = some (.dT (cellK [])) := k2 _ _ neD upd_same
    have k01 : KeepB r H H1 := (KeepB.new nD).trans k2
    have cc1 : 0 < (c : Int) - 1 := by omega
    have cc2 : (c : Int) - 1 < 2 ^ 250 := by omega
    refine for_range (lo := 0) (n := n.toNat) (fun i σ H' => Ok (∃ (y4 y5 : Option V) (m : CM), σ = [some (.ref r), some (.int c), some (.int mo), some (.ref D), y4, y5] ∧ H' D = some (.dT (cellK m)) ∧ (m.map (·.1)).Nodup ∧ m.length ≤ i ∧
      (∀ e ∈ m, InB 3 e.1 ∧ 1 ≤ e.2 ∧ e.2 < c) ∧ Row K H' r ∧ KeepB r H H')) ?_ ?_ ?_
    · exact ⟨_, _, [], rfl, hD1, List.nodup_nil, Nat.le_refl _, fun e he => (nomatch he), R2, k01⟩
    · rintro i σ H' hi ⟨y4, y5, m, rfl, hD, nd, lm, ok, R', kp⟩
      walk_at "st"
      intro v Hv v0 v1 Rv kv
      walk_at "st"
      intro x Hx x0 x1 Rx kx
      walk_at "st"
      intro y Hy y0 y1 Ry ky
      walk_at "st"
      intro p np
      have k3 : KeepB r H' Hy := (kv.trans kx).trans ky
      have hDy : Hy D = some (.dT (cellK m)) := k3 _ _ neD hD
      have hD4 : (upd Hy p (.tup [.int x, .int y])) D = some (.dT (cellK m)) := by
        rw [upd_ne (ne_of_none hDy np)]
        exact hDy
      have hsz : (cellK m).length < sizeLine := by
        rw [cell_len]
        exact small1000 (by omega)
      have hw : DPut (upd Hy p (.tup [.int x, .int y])) D (.ref p) (.int (1 + v)) (upd (upd Hy p (.tup [.int x, .int y])) D (.dT (putK (cellK m) (ptK (x, y)) (.int (1 + v))))) := DPut.t hD4 upd_same hsz
      walk_at "st"
      have R4 := Ry.new (o := .tup [.int x, .int y]) np
      refine ⟨_, _, putM m (x, y) (1 + v), rfl, ?_, nd_put _ _ nd, ?_, fun e he => ?_, ?_, ?_⟩
      · rw [upd_same, cell_put _ _ nd]
      · have := len_put m (x, y) (1 + v)
        omega
      · rcases put_mem2 he with z | z
        · exact ok e z
        · rw [z]
          exact ⟨⟨⟨x0, x1⟩, y0, y1⟩, by omega, by show 1 + v < c; omega⟩
      · exact R4.keep (TK.dT hD4) (upd_ne neD.symm)
      · exact ((kp.trans k3).trans (KeepB.new np)).fresh nD
    · rintro σ H' ⟨y4, y5, m, rfl, hD, nd, lm, ok, R', kp⟩
      have lm6 : (m.length : Int) ≤ mo := by omega
      have lm9 : m.length ≤ 9 := by omega
      refine ⟨_, rfl, D, cellK m, m.map (fun e => [e.1.1, e.1.2]), rfl, hD, cell_keys m, fun k hk => ?_, fun p bs np pm pw tb => ?_⟩
      · obtain ⟨e, _, rfl⟩ := List.mem_map.mp hk
        intro z
        cases z
      · obtain ⟨ps, ep, asc, mem, lp⟩ := sorted_keys nd pm pw
        have s1 : Same H' (upd H' p (.lst (bs.map fun b => .ref b.1))) := Same.new np
        have hp1 : (upd H' p (.lst (bs.map fun b => .ref b.1))) p = some (.lst (bs.map fun b => .ref b.1)) := upd_same
        generalize hH1 : upd H' p (.lst (bs.map fun b => .ref b.1)) = H1 at s1 hp1
        have lb : bs.length = ps.length := by
          have z := congrArg List.length ep
          rw [List.length_map, List.length_map] at z
          exact z
        walk_at "st"
        intro M nM
        refine lc_it (walk_list (K := K) (a := p) (xs := bs.map fun b => .ref b.1)) (fun j H2 => Ok (Same H1 H2 ∧ ∃ us, H2 M = some (.lst us) ∧ us.length = j ∧ TpAll K H2 us (((ps.take j).map (sqAt m)).map sqD))) ⟨Same.new nM, [], upd_same, rfl, .nil⟩ (fun j H2 _ ⟨s2, _⟩ => SqL.of (s2 _ _ hp1)) ?_ ?_
        · rintro j x H2 H3 hj ⟨s2, us, hM, lus, hus⟩ ⟨rfl, hx⟩
          rw [List.length_map] at hj
          have hjp : j < ps.length := by omega
          have hxb : x = .ref bs[j].1 := by
            rw [List.getElem?_map, List.getElem?_eq_getElem hj] at hx
            exact (Option.some.inj hx).symm
          have e2 : bs[j].2 = [ps[j].1, ps[j].2] := by
            have z : (bs.map (·.2))[j]? = (ps.map fun p : Pt => [p.1, p.2])[j]? := by rw [ep]
            rw [List.getElem?_map, List.getElem?_map, List.getElem?_eq_getElem hj, List.getElem?_eq_getElem hjp] at z
            exact Option.some.inj z
          have hb : H' bs[j].1 = some (.tup [.int ps[j].1, .int ps[j].2]) := by
            rw [tb _ (List.getElem_mem hj), e2]
            rfl
          have tk := take_more (List.getElem?_eq_getElem hjp)
          have pin : ps[j] ∈ m.map (·.1) := (mem _).mp (List.getElem_mem hjp)
          have lk := look_some pin
          generalize bs[j].1 = b at *
          generalize ps[j] = pt at *
          subst hxb
          have s02 := Same.trans s1 s2
          have hb3 := s02 _ _ hb
          have hc3 := s02 _ _ hD
          have hg : DGet H3 D (.ref b) (some (.int (col m pt))) := .inr ⟨cellK m, ptK pt, b, .inl hc3, rfl, hb3, by rw [cell_val, lk]; rfl⟩
          walk_at "st"
          intro t nt
          have s3 : Same H3 (upd H3 t (.tup [.int (col m pt)])) := Same.new nt
          refine catA_of (SqT.of (s3 _ _ hb3)) (SqT.of upd_same) (by intro z; cases z) (by intro z; cases z) (by show 3 ≤ sizeLine; decide) fun u nu => ?_
          have s4 : Same H3 (upd (upd H3 t (.tup [.int (col m pt)])) u (.tup ([.int pt.1, .int pt.2] ++ [.int (col m pt)]))) := Same.trans s3 (Same.new nu)
          have hM4 := s4 _ _ hM
          have hsz : us.length < sizeLine := small1000 (by omega)
          refine ⟨us, hM4, hsz, Same.fresh (Same.trans s2 s4) nM, us ++ [.ref u], upd_same, by rw [List.length_append, lus]; rfl, ?_⟩
          rw [tk, List.map_append, List.map_append]
          have t5 : TK (upd (upd H3 t (.tup [.int (col m pt)])) u (.tup ([.int pt.1, .int pt.2] ++ [.int (col m pt)]))) (upd (upd (upd H3 t (.tup [.int (col m pt)])) u (.tup ([.int pt.1, .int pt.2] ++ [.int (col m pt)]))) M (.lst (us ++ [.ref u]))) := TK.lst hM4
          exact TpAll.append (TpAll.mono ((Same.tk s4).trans t5) _ _ hus) (.cons (Tp.mono t5 _ _ (Tp.of_ints (ks := [pt.1, pt.2, col m pt]) (SqT.of upd_same))) .nil)
        · rintro H2 ⟨s2, us, hM, lus, hus⟩
          rw [List.length_map, lb, List.take_length] at hus
          walk_at "st"
          intro l nl
          have sZ : Same H' (upd H2 l (.tup us)) := Same.trans (Same.trans s1 s2) (Same.new nl)
          refine q _ _ (ps.map (sqAt m)) ⟨List.pairwise_map.mpr asc, fun s hs => ?_⟩ (by rw [List.length_map]; omega) (.tup (SqT.of upd_same) (TpAll.mono (TK.new nl) _ _ hus)) (R'.same sZ) (kp.trans (Same.keepB sZ))
          obtain ⟨pt, hpt, rfl⟩ := List.mem_map.mp hs
          exact ok (pt, col m pt) (look_mem (look_some ((mem _).mp hpt)))
end

/-! ### powers -/
def spPower : Sp := fun vs H Q _ => ∃ a b : Int, vs = [.int a, .int b] ∧ 0 ≤ a ∧ a < 2 ^ 40 ∧ -1000 ≤ b ∧ b ≤ 1000 ∧ Q (.int (a ^ b.toNat)) H
section
variable {P : Program} {w : World} {K : PySem.W.Frag} {mg : Str → Option Value} {base : Heap}
local macro_rules | `(tactic| walk_at "cl") => `(tactic| first | (refine le_only ?_; omega) | (refine lt_only ?_; omega))
theorem ok_law_power (T : Txt K mg) (D : DefAt K mg "_law_power" s_law_power ["number", "many"]) : Cal P w K mg base CX0 "_law_power" 1 ["number", "many"] spPower := by
  refine D.cal sc_law_power (fun vs H Q E h => ?_) (fun f cdv A outer s H vs Q E hr h => ?_)
  · obtain ⟨a, b, rfl, _⟩ := h
    rfl
  · obtain ⟨a, b, rfl, a0, a1, b0, b1, q⟩ := h
    refine ⟨_, (pss_cons (ps_set (i := 2) sc_law_power.nd rfl (Or.inl rfl) pe_int)
      (pss_cons (ps_for PassesOwn.never rfl (pi_range1 (by rfl) T.m_range (pa_cons (pv 1) pa_nil)) (pg_name (i := 3) sc_law_power.nd rfl (Or.inl rfl))
      (pss_one (ps_set (i := 2) sc_law_power.nd rfl (Or.inl rfl) (pe_op op_mul (pv 2) (pv 0)))))
      (pss_one (ps_ret (pv 2))))), ?_⟩
    have m4 : ∀ i, CMul i a := fun i => .inr ⟨by omega, by omega⟩
    walk_at "st"
    refine for_range (lo := 0) (n := b.toNat) (fun i σ H' => Ok (∃ y : Option V, σ = [some (.int a), some (.int b), some (.int (a ^ i)), y] ∧ H' = H)) ⟨_, by rw [Int.pow_zero]; rfl, rfl⟩ ?_ ?_
    · rintro i σ H' hi ⟨y, rfl, rfl⟩
      walk_at "st"
      rw [show a ^ (i + 1) = a ^ i * a from Int.pow_succ _ _]
      exact ⟨_, rfl, rfl⟩
    · rintro σ H' ⟨y, rfl, rfl⟩
      walk_at "st"
      exact q
end

/-! ### as many stands as there are -/
def wordsN (n : Nat) : Nat → List (List Nat)
  | 0 => [[]]
  | b + 1 => (wordsN n b).flatMap fun w => (List.range n).map fun c => c :: w
theorem wordsN_len (n : Nat) : ∀ b, (wordsN n b).length = n ^ b
  | 0 => rfl
  | b + 1 => by
    unfold wordsN
    rw [List.length_flatMap]
    simp only [List.length_map, List.length_range]
    rw [List.map_const', List.sum_replicate_nat, wordsN_len n b, Nat.pow_succ]
theorem wordsN_mem {n : Nat} : ∀ {b : Nat} {w : List Nat}, w.length = b → (∀ c ∈ w, c < n) → w ∈ wordsN n b
  | 0, [], _, _ => List.mem_singleton.mpr rfl
  | 0, _ :: _, h, _ => nomatch h
  | b + 1, [], h, _ => nomatch h
  | b + 1, c :: w, h, q => by
    unfold wordsN
    refine List.mem_flatMap.mpr ⟨w, wordsN_mem (by simpa using h) fun x hx => q x (List.mem_cons_of_mem _ hx), ?_⟩
    exact List.mem_map.mpr ⟨c, List.mem_range.mpr (q c List.mem_cons_self), rfl⟩
abbrev StN := List Nat × Nat × Nat × Nat
def standsN (n b w h : Nat) : List StN := (wordsN n b).flatMap fun c => (List.range 4).flatMap fun d => (List.range w).flatMap fun x => (List.range h).map fun y => (c, d, x, y)
theorem standsN_len (n b w h : Nat) : (standsN n b w h).length = n ^ b * (4 * (w * h)) := by
  unfold standsN
  simp only [List.length_flatMap, List.length_map, List.length_range, List.map_const', List.sum_replicate_nat, wordsN_len]
theorem standsN_mem {n b w h : Nat} {c : List Nat} {d x y : Nat} (lc : c.length = b) (hc : ∀ k ∈ c, k < n) (hd : d < 4) (hx : x < w) (hy : y < h) : (c, d, x, y) ∈ standsN n b w h :=
  List.mem_flatMap.mpr ⟨c, wordsN_mem lc hc, List.mem_flatMap.mpr ⟨d, List.mem_range.mpr hd, List.mem_flatMap.mpr ⟨x, List.mem_range.mpr hx, List.mem_map.mpr ⟨y, List.mem_range.mpr hy, rfl⟩⟩⟩⟩
/-- more pigeons than holes -/
theorem pigeon {α : Type} [DecidableEq α] {N : Nat} {A : List α} (f : Nat → α) (h : ∀ k, k < N → f k ∈ A) (l : A.length < N) : ∃ i j, i < j ∧ j < N ∧ f i = f j := by
  refine Classical.byContradiction fun no => ?_
  have nd : ((List.range N).map f).Nodup := by
    refine List.pairwise_map.mpr ?_
    have : (List.range N).Pairwise (· < ·) := List.pairwise_lt_range
    refine List.Pairwise.imp_of_mem ?_ this
    intro i j hi hj lt e
    exact no ⟨i, j, lt, List.mem_range.mp hj, e⟩
  have sub : ∀ x ∈ (List.range N).map f, x ∈ A := fun x hx => by
    obtain ⟨k, hk, rfl⟩ := List.mem_map.mp hx
    exact h k (List.mem_range.mp hk)
  have := nodup_sub nd sub
  rw [List.length_map, List.length_range] at this
  omega
def inBox (w h : Int) (p : Pt) : Prop := (0 ≤ p.1 ∧ p.1 < w) ∧ (0 ≤ p.2 ∧ p.2 < h)
/-- a stand in a box, as numbers -/
def codeN (ps : List Pt) (z : WSt) : StN := (ps.map fun p => (z.1 p).toNat, z.2.2.2.1.toNat, z.2.1.toNat, z.2.2.1.toNat)
theorem TurnL.leaves {L : List Pt} (hL : TurnL L) (b : BothL L) {B : Int} {z : WSt} (g : Fit L.length 1 B z) {w h : Nat} {ps : List Pt} (hps : ∀ p, p ∈ ps ↔ inBox w h p) (lps : ps.length = w * h) {N : Nat} (hN : L.length ^ (w * h) * (4 * (w * h)) < N)
    (all : ∀ k, k < N → inBox w h (wPt (itT [tRow L] z k).2)) : False := by
  have fitK : ∀ k, ∃ B', Fit L.length 1 B' (itT [tRow L] z k) := hL.turning.fit hL.tab g
  have frame : ∀ k, k ≤ N → ∀ p, p ∉ ps → (itT [tRow L] z k).1 p = z.1 p := by
    intro k
    induction k with
    | zero => exact fun _ _ _ => rfl
    | succ k ih =>
      intro lk p hp
      obtain ⟨B', g'⟩ := fitK k
      show (oneT [tRow L] (itT [tRow L] z k)).1 p = _
      rw [hL.turning.one g']
      show dab _ _ _ p = _
      unfold dab
      have : p ≠ wPt (itT [tRow L] z k).2 := fun e => hp ((hps p).mpr (by rw [e]; exact all k (by omega)))
      rw [if_neg this]
      exact ih (by omega) p hp
  obtain ⟨i, j, lt, lj, e⟩ := pigeon (N := N) (A := standsN L.length (w * h) w h) (fun k => codeN ps (itT [tRow L] z k)) (fun k lk => by
    obtain ⟨B', g'⟩ := fitK k
    have bx := all k lk
    have hd := g'.hd
    have b1 := bx.1
    have b2 := bx.2
    refine standsN_mem (by rw [List.length_map, lps]) (fun c hc => ?_) (by omega) ?_ ?_
    · obtain ⟨p, _, rfl⟩ := List.mem_map.mp hc
      have := g'.cols p
      omega
    · have : (itT [tRow L] z k).2.1 < (w : Int) := b1.2
      have : 0 ≤ (itT [tRow L] z k).2.1 := b1.1
      omega
    · have : (itT [tRow L] z k).2.2.1 < (h : Int) := b2.2
      have : 0 ≤ (itT [tRow L] z k).2.2.1 := b2.1
      omega) (by rw [standsN_len]; exact hN)
  obtain ⟨Bi, gi⟩ := fitK i
  obtain ⟨Bj, gj⟩ := fitK j
  have bi := all i (by omega)
  have bj := all j lj
  unfold codeN at e
  obtain ⟨e1, e2⟩ := Prod.mk.inj e
  obtain ⟨e2, e3⟩ := Prod.mk.inj e2
  obtain ⟨e3, e4⟩ := Prod.mk.inj e3
  have hz : itT [tRow L] z i = itT [tRow L] z j := by
    refine Prod.ext ?_ ?_
    · funext p
      by_cases hp : p ∈ ps
      · obtain ⟨n, ln, en⟩ := List.getElem_of_mem hp
        have q := congrArg (fun l => l[n]?) e1
        simp only [List.getElem?_map, List.getElem?_eq_getElem ln, Option.map_some, en] at q
        have q := Option.some.inj q
        have c1 := gi.cols p
        have c2 := gj.cols p
        omega
      · rw [frame i (by omega) p hp, frame j (by omega) p hp]
    · have hi := gi.hd
      have hj := gj.hd
      have si := gi.st
      have sj := gj.st
      have i1 : 0 ≤ (itT [tRow L] z i).2.1 := bi.1.1
      have j1 : 0 ≤ (itT [tRow L] z j).2.1 := bj.1.1
      have i2 : 0 ≤ (itT [tRow L] z i).2.2.1 := bi.2.1
      have j2 : 0 ≤ (itT [tRow L] z j).2.2.1 := bj.2.1
      refine Prod.ext (by omega) (Prod.ext (by omega) (Prod.ext (by omega) (by omega)))
  obtain ⟨p, hp⟩ : ∃ p, j = i + p ∧ 0 < p := ⟨j - i, by omega, by omega⟩
  refine hL.no_twice b gi hp.2 ?_
  rw [← it_add, ← hp.1]
  exact hz.symm

/-! ### as many unlike stands as steps lie in the box that is trodden -/
def standsM (m n b s : Nat) : List (List Nat × Nat × Nat) := (wordsN n b).flatMap fun c => (List.range m).flatMap fun d => (List.range s).map fun x => (c, d, x)
theorem standsM_len (m n b s : Nat) : (standsM m n b s).length = n ^ b * (m * s) := by
  unfold standsM
  simp only [List.length_flatMap, List.length_map, List.length_range, List.map_const', List.sum_replicate_nat, wordsN_len]
theorem standsM_mem {m n b s : Nat} {c : List Nat} {d x : Nat} (lc : c.length = b) (hc : ∀ k ∈ c, k < n) (hd : d < m) (hx : x < s) : (c, d, x) ∈ standsM m n b s :=
  List.mem_flatMap.mpr ⟨c, wordsN_mem lc hc, List.mem_flatMap.mpr ⟨d, List.mem_range.mpr hd, List.mem_map.mpr ⟨x, List.mem_range.mpr hx, rfl⟩⟩⟩
/-- a box of squares: its lower corner, its width and its height -/
def atBox (x0 y0 : Int) (w h : Nat) (p : Pt) : Prop := (x0 ≤ p.1 ∧ p.1 < x0 + w) ∧ (y0 ≤ p.2 ∧ p.2 < y0 + h)
def boxNo (x0 y0 : Int) (w : Nat) (p : Pt) : Nat := (p.1 - x0).toNat + w * (p.2 - y0).toNat
def boxAt (x0 y0 : Int) (w : Nat) (i : Nat) : Pt := (x0 + ((i % w : Nat) : Int), y0 + ((i / w : Nat) : Int))
theorem boxAt_no {x0 y0 : Int} {w h : Nat} {p : Pt} (b : atBox x0 y0 w h p) : boxAt x0 y0 w (boxNo x0 y0 w p) = p := by
  obtain ⟨⟨a1, a2⟩, a3, a4⟩ := b
  have w0 : 0 < w := by omega
  have xl : (p.1 - x0).toNat < w := by omega
  unfold boxAt boxNo
  rw [Nat.add_mul_mod_self_left, Nat.mod_eq_of_lt xl, Nat.add_mul_div_left _ _ w0, Nat.div_eq_of_lt xl]
  exact Prod.ext (by show x0 + _ = p.1; omega) (by show y0 + _ = p.2; omega)
theorem boxNo_lt {x0 y0 : Int} {w h : Nat} {p : Pt} (b : atBox x0 y0 w h p) : boxNo x0 y0 w p < w * h := by
  obtain ⟨⟨a1, a2⟩, a3, a4⟩ := b
  have xl : (p.1 - x0).toNat < w := by omega
  have yl : (p.2 - y0).toNat + 1 ≤ h := by omega
  unfold boxNo
  have := Nat.mul_le_mul_left w yl
  rw [Nat.mul_succ] at this
  omega
theorem TurnL.crowd {L : List Pt} (hL : TurnL L) (b : BothL L) {B : Int} {z : WSt} (g : Fit L.length 1 B z) {x0 y0 : Int} {w h N : Nat} (all : ∀ k, k < N → atBox x0 y0 w h (wPt (itT [tRow L] z k).2)) : N ≤ L.length ^ (w * h) * (2 * (w * h)) := by
  refine Nat.le_of_not_lt fun hN => ?_
  have fitK : ∀ k, ∃ B', Fit L.length 1 B' (itT [tRow L] z k) := hL.turning.fit hL.tab g
  have frame : ∀ k, k < N → ∀ p, ¬ atBox x0 y0 w h p → (itT [tRow L] z k).1 p = z.1 p := by
    intro k
    induction k with
    | zero => exact fun _ _ _ => rfl
    | succ k ih =>
      intro lk p hp
      obtain ⟨B', g'⟩ := fitK k
      show (oneT [tRow L] (itT [tRow L] z k)).1 p = _
      rw [hL.turning.one g']
      show dab _ _ _ p = _
      unfold dab
      have : p ≠ wPt (itT [tRow L] z k).2 := fun e => hp (by rw [e]; exact all k (by omega))
      rw [if_neg this]
      exact ih (by omega) p hp
  have par := hL.turning.par hL.tab g
  obtain ⟨i, j, lt, lj, e⟩ := pigeon (N := N) (A := standsM 2 L.length (w * h) (w * h)) (fun k => (((List.range (w * h)).map fun i => ((itT [tRow L] z k).1 (boxAt x0 y0 w i)).toNat), ((itT [tRow L] z k).2.2.2.1 / 2).toNat, boxNo x0 y0 w (wPt (itT [tRow L] z k).2))) (fun k lk => by
    obtain ⟨B', g'⟩ := fitK k
    have hd := g'.hd
    refine standsM_mem (by rw [List.length_map, List.length_range]) (fun c hc => ?_) (by omega) (boxNo_lt (all k lk))
    obtain ⟨i, _, rfl⟩ := List.mem_map.mp hc
    have := g'.cols (boxAt x0 y0 w i)
    omega) (by rw [standsM_len]; exact hN)
  obtain ⟨Bi, gi⟩ := fitK i
  obtain ⟨Bj, gj⟩ := fitK j
  obtain ⟨e1, e2⟩ := Prod.mk.inj e
  obtain ⟨e2, e3⟩ := Prod.mk.inj e2
  have ep : wPt (itT [tRow L] z i).2 = wPt (itT [tRow L] z j).2 := by rw [← boxAt_no (all i (by omega)), ← boxAt_no (all j lj), e3]
  have hz : itT [tRow L] z i = itT [tRow L] z j := by
    refine Prod.ext ?_ ?_
    · funext p
      by_cases hp : atBox x0 y0 w h p
      · have q := congrArg (fun l => l[boxNo x0 y0 w p]?) e1
        simp only [List.getElem?_map, List.getElem?_range (boxNo_lt hp), Option.map_some, boxAt_no hp] at q
        have q := Option.some.inj q
        have c1 := gi.cols p
        have c2 := gj.cols p
        omega
      · rw [frame i (by omega) p hp, frame j lj p hp]
    · have hi := gi.hd
      have hj := gj.hd
      have si := gi.st
      have sj := gj.st
      have ex : (itT [tRow L] z i).2.1 = (itT [tRow L] z j).2.1 := (Prod.mk.inj ep).1
      have ey : (itT [tRow L] z i).2.2.1 = (itT [tRow L] z j).2.2.1 := (Prod.mk.inj ep).2
      have pi_ := par i
      have pj := par j
      rw [ex, ey] at pi_
      refine Prod.ext ex (Prod.ext ey (Prod.ext (by omega) (by omega)))
  obtain ⟨p, hp⟩ : ∃ p, j = i + p ∧ 0 < p := ⟨j - i, by omega, by omega⟩
  refine hL.no_twice b gi hp.2 ?_
  rw [← it_add, ← hp.1]
  exact hz.symm
theorem pow_big {c k : Nat} (h : 2 ≤ c) (hk : 40 ≤ k) : 2 ^ 40 ≤ c ^ k := Nat.le_trans (Nat.pow_le_pow_left h 40) (Nat.pow_le_pow_right (by omega) hk)
/-- the law's own count -/
theorem TurnL.room {L : List Pt} (hL : TurnL L) (b : BothL L) {B : Int} {z : WSt} (g : Fit L.length 1 B z) {x0 y0 : Int} {w h N : Nat} (w1 : 1 ≤ w) (h1 : 1 ≤ h) (nN : N ≤ 1000) (c2 : 2 ≤ L.length) (all : ∀ k, k < N → atBox x0 y0 w h (wPt (itT [tRow L] z k).2)) : N < 4 * (w * h) * L.length ^ (min (w * h) 40) := by
  have s1 : 1 ≤ w * h := Nat.mul_le_mul w1 h1
  by_cases f : w * h ≤ 40
  · have q := hL.crowd b g all
    rw [Nat.min_eq_left f]
    have p1 : 1 ≤ L.length ^ (w * h) := Nat.pow_pos (by omega)
    generalize L.length ^ (w * h) = p at *
    generalize w * h = s at *
    have e1 : p * (2 * s) = 2 * (s * p) := by rw [Nat.mul_comm p, Nat.mul_assoc]
    have e2 : 4 * s * p = 4 * (s * p) := Nat.mul_assoc _ _ _
    have : 1 ≤ s * p := Nat.mul_le_mul s1 p1
    omega
  · rw [Nat.min_eq_right (by omega)]
    have q := pow_big c2 (Nat.le_refl 40)
    have e : (2 : Nat) ^ 40 = 1099511627776 := by decide
    rw [e] at q
    have : 4 * 1099511627776 ≤ 4 * (w * h) * L.length ^ 40 := Nat.mul_le_mul (by omega) q
    omega

/-! ### what the law keeps of a turning walk -/
theorem TurnL.run {L : List Pt} (hL : TurnL L) {B : Int} {z : WSt} (g : Fit L.length 1 B z) : ∀ k, runW [tRow L] k z = some (itT [tRow L] z k)
  | 0 => rfl
  | k + 1 => by
    show (runW [tRow L] k z).bind (stepW [tRow L]) = _
    rw [hL.run g k]
    obtain ⟨B', g'⟩ := hL.turning.fit hL.tab g k
    exact hL.turning.some g'
theorem nk_sq (s : Sq) : nkOf (sqD s) = .tup [.num s.1, .num s.2.1, .num s.2.2] := by
  unfold sqD
  simp only [nkOf, nkAll]
theorem nk_sqs_inj : ∀ F G : List Sq, nkAll (F.map sqD) = nkAll (G.map sqD) → F = G
  | [], [], _ => rfl
  | [], _ :: _, h => by simp only [List.map_nil, List.map_cons, nkAll] at h; cases h
  | _ :: _, [], h => by simp only [List.map_nil, List.map_cons, nkAll] at h; cases h
  | s :: F, t :: G, h => by
    simp only [List.map_cons, nkAll, nk_sq] at h
    injection h with h1 h2
    injection h1 with h1
    injection h1 with a1 h1
    injection h1 with a2 h1
    injection h1 with a3 _
    injection a1 with a1
    injection a2 with a2
    injection a3 with a3
    rw [nk_sqs_inj F G h2, show s = t from Prod.ext a1 (Prod.ext a2 a3)]
theorem nk_floor_inj {F G : List Sq} (h : nkOf (floorD F) = nkOf (floorD G)) : F = G := by
  unfold floorD at h
  simp only [nkOf] at h
  injection h with h
  exact nk_sqs_inj F G h
theorem nk_sqs : ∀ F : List Sq, numKs (nkAll (F.map sqD)) = true ∧ NestedKey.depthAll (nkAll (F.map sqD)) ≤ 1
  | [] => by simp [nkAll, numKs, NestedKey.depthAll]
  | s :: F => by
    obtain ⟨a, b⟩ := nk_sqs F
    simp only [List.map_cons, nkAll, nk_sq, numKs, numK, NestedKey.depthAll, NestedKey.depth, a, Bool.and_self, true_and]
    omega
theorem nk_floor (F : List Sq) : numK (nkOf (floorD F)) = true ∧ (nkOf (floorD F)).depth ≤ 8 := by
  obtain ⟨a, b⟩ := nk_sqs F
  unfold floorD
  simp only [nkOf, numK, NestedKey.depth]
  exact ⟨a, by omega⟩
theorem FloorOf.fn {f g : Pt → Int} {F : List Sq} (h : FloorOf f F) (h' : FloorOf g F) : f = g := by
  funext p
  have key : ∀ {f g : Pt → Int}, FloorOf f F → FloorOf g F → f p ≠ 0 → g p = f p := fun {f g} h h' z => by
    have m : (p.1, p.2, f p) ∈ F := (h.mem _).mpr ⟨rfl, z⟩
    exact ((h'.mem _).mp m).1.symm
  by_cases z : f p = 0
  · by_cases y : g p = 0
    · rw [z, y]
    · exact key h' h y
  · exact (key h h' z).symm
/-! the two dicts of the law -/
abbrev wkK (v : Wk) : List Key := [.inl v.1, .inl v.2.1, .inl v.2.2.1, .inl v.2.2.2]
theorem wkK_inj {v u : Wk} (h : wkK v = wkK u) : v = u := by
  injection h with a1 h
  injection h with a2 h
  injection h with a3 h
  injection h with a4 _
  injection a1 with a1
  injection a2 with a2
  injection a3 with a3
  injection a4 with a4
  exact Prod.ext a1 (Prod.ext a2 (Prod.ext a3 a4))
theorem valV_of_mem {κ : Type} [DecidableEq κ] {kvs : List (κ × V)} {k : κ} (h : k ∈ kvs.map (·.1)) : ∃ v, valV kvs k = some v := by
  cases e : valV kvs k with
  | some v => exact ⟨v, rfl⟩
  | none =>
    have z := valV_any k kvs
    rw [e] at z
    obtain ⟨x, hx, rfl⟩ := List.mem_map.mp h
    have : (kvs.any fun kv => decide (kv.1 = x.1)) = true := List.any_eq_true.mpr ⟨x, hx, decide_eq_true rfl⟩
    rw [this] at z
    cases z
theorem mem_of_valV {κ : Type} [DecidableEq κ] {kvs : List (κ × V)} {k : κ} {v : V} (h : valV kvs k = some v) : k ∈ kvs.map (·.1) := by
  have z := valV_any k kvs
  rw [h] at z
  obtain ⟨x, hx, e⟩ := List.any_eq_true.mp z
  exact List.mem_map.mpr ⟨x, hx, of_decide_eq_true e⟩
abbrev stV (ls : List Nat) : List V := ls.map fun n => V.int ((n : Nat) : Int)
structure SeenOk (H : Hp) (kvs : List (List Key × V)) (f : Nat → Wk) (n : Nat) : Prop where
  keys : ∀ k ∈ kvs.map (·.1), ∃ v, k = wkK v
  val : ∀ (u : Wk) v, valV kvs (wkK u) = some v → ∃ ad ls, v = .ref ad ∧ H ad = some (.lst (stV ls)) ∧ ls.Pairwise (· < ·) ∧ ∀ j ∈ ls, 1 ≤ j ∧ j ≤ n ∧ f j = u
  len : kvs.length ≤ n
theorem SeenOk.nil (H : Hp) (f : Nat → Wk) : SeenOk H [] f 0 := ⟨fun k h => absurd h List.not_mem_nil, fun u v h => (by cases h), Nat.le_refl _⟩
theorem SeenOk.on {H H' : Hp} {kvs : List (List Key × V)} {f : Nat → Wk} {n : Nat} (h : SeenOk H kvs f n) (k : ∀ ad us, H ad = some (.lst us) → H' ad = some (.lst us)) : SeenOk H' kvs f n := ⟨h.keys, fun u v e => by
  obtain ⟨ad, ls, e1, e2, r⟩ := h.val u v e
  exact ⟨ad, ls, e1, k _ _ e2, r⟩, h.len⟩
theorem putK_le {κ : Type} [DecidableEq κ] (c : List (κ × V)) (k : κ) (x : V) : (putK c k x).length ≤ c.length + 1 := by
  unfold putK
  split
  · rw [List.length_map]
    omega
  · rw [List.length_append]
    exact Nat.le_refl _
theorem SeenOk.put {H H' : Hp} {kvs : List (List Key × V)} {f : Nat → Wk} {n : Nat} (h : SeenOk H kvs f n) (k : ∀ ad us, H ad = some (.lst us) → H' ad = some (.lst us)) {lc : Addr} {ls : List Nat} (e : H' lc = some (.lst (stV (ls ++ [n + 1])))) (so : ls.Pairwise (· < ·)) (ok : ∀ j ∈ ls, 1 ≤ j ∧ j ≤ n ∧ f j = f (n + 1)) :
    SeenOk H' (putK kvs (wkK (f (n + 1))) (.ref lc)) f (n + 1) := by
  refine ⟨fun x hx => ?_, fun u v hv => ?_, Nat.le_trans (putK_le _ _ _) (Nat.succ_le_succ h.len)⟩
  · obtain ⟨v, hv⟩ := valV_of_mem hx
    rw [valV_put] at hv
    split at hv
    · rename_i z
      exact ⟨_, z⟩
    · exact h.keys x (mem_of_valV hv)
  · rw [valV_put] at hv
    split at hv
    · rename_i z
      have z := wkK_inj z
      subst z
      have hv := Option.some.inj hv
      subst hv
      refine ⟨lc, ls ++ [n + 1], rfl, e, ?_, fun j hj => ?_⟩
      · refine List.pairwise_append.mpr ⟨so, List.pairwise_singleton _ _, fun a ha b hb => ?_⟩
        rw [List.mem_singleton.mp hb]
        have := (ok a ha).2.1
        omega
      · rcases List.mem_append.mp hj with g | g
        · obtain ⟨o1, o2, o3⟩ := ok j g
          exact ⟨o1, by omega, o3⟩
        · rw [List.mem_singleton.mp g]
          exact ⟨by omega, Nat.le_refl _, rfl⟩
    · obtain ⟨ad, ls', e1, e2, e3, e4⟩ := h.val u v hv
      exact ⟨ad, ls', e1, k _ _ e2, e3, fun j hj => by
        obtain ⟨o1, o2, o3⟩ := e4 j hj
        exact ⟨o1, by omega, o3⟩⟩
structure WaysOk (m : CM) (f : Nat → Wk) (c0 : Int) (n : Nat) : Prop where
  nd : (m.map (·.1)).Nodup
  par : ∀ e ∈ m, (e.1.1 + e.1.2 + e.2) % 2 = c0 ∧ 0 ≤ e.2 ∧ e.2 < 2
  bd : ∀ e ∈ m, InB 600 e.1
  len : m.length ≤ n
  all : ∀ j, 1 ≤ j → j ≤ n → wPt (f j) ∈ m.map (·.1)
theorem WaysOk.nil (f : Nat → Wk) (c0 : Int) : WaysOk [] f c0 0 := ⟨List.nodup_nil, fun e h => absurd h List.not_mem_nil, fun e h => absurd h List.not_mem_nil, Nat.le_refl _, fun j h1 h2 => by omega⟩
theorem WaysOk.same {m : CM} {f : Nat → Wk} {c0 : Int} {n : Nat} (h : WaysOk m f c0 n) {u : Wk} (p : (u.1 + u.2.1 + u.2.2.1) % 2 = c0) : ((look m (wPt u)).map V.int).getD (.int (u.2.2.1 % 2)) = .int (u.2.2.1 % 2) := by
  cases e : look m (wPt u) with
  | none => rfl
  | some l =>
    obtain ⟨q1, q2, q3⟩ := h.par _ (look_mem e)
    have q1 : (u.1 + u.2.1 + l) % 2 = c0 := q1
    have q2 : 0 ≤ l := q2
    have q3 : l < 2 := q3
    show V.int l = _
    rw [show l = u.2.2.1 % 2 by omega]
theorem WaysOk.put {m : CM} {f : Nat → Wk} {c0 : Int} {n : Nat} (h : WaysOk m f c0 n) (p : ((f (n + 1)).1 + (f (n + 1)).2.1 + (f (n + 1)).2.2.1) % 2 = c0) (b : InB 600 (wPt (f (n + 1)))) : WaysOk (putM m (wPt (f (n + 1))) ((f (n + 1)).2.2.1 % 2)) f c0 (n + 1) := by
  have el : ∀ e ∈ putM m (wPt (f (n + 1))) ((f (n + 1)).2.2.1 % 2), e ∈ m ∨ e = (wPt (f (n + 1)), (f (n + 1)).2.2.1 % 2) := fun e he => put_mem2 he
  refine ⟨nd_put _ _ h.nd, fun e he => ?_, fun e he => ?_, Nat.le_trans (len_put _ _ _) (Nat.succ_le_succ h.len), fun j j1 j2 => ?_⟩
  · rcases el e he with g | g
    · exact h.par e g
    · rw [g]
      refine ⟨?_, Int.emod_nonneg _ (by decide), Int.emod_lt_of_pos _ (by decide)⟩
      show ((f (n + 1)).1 + (f (n + 1)).2.1 + (f (n + 1)).2.2.1 % 2) % 2 = c0
      omega
  · rcases el e he with g | g
    · exact h.bd e g
    · rw [g]
      exact b
  · refine Classical.byContradiction fun z => ?_
    have z := look_none.mpr z
    rw [look_put] at z
    split at z
    · cases z
    · rename_i ne
      rcases Nat.lt_or_ge n j with g | g
      · have : j = n + 1 := by omega
        rw [this] at ne
        exact ne rfl
      · exact (look_none.mp z) (h.all j j1 g)
/-- no floor comes twice behind the same walker -/
theorem TurnL.unlike {L : List Pt} (hL : TurnL L) (b : BothL L) {B : Int} {z : WSt} (g : Fit L.length 1 B z) {i j : Nat} (lt : i < j) (e : (itT [tRow L] z i).2 = (itT [tRow L] z j).2) {F G : List Sq} (hF : FloorOf (itT [tRow L] z i).1 F) (hG : FloorOf (itT [tRow L] z j).1 G) : nkOf (floorD F) ≠ nkOf (floorD G) := fun h => by
  have h := nk_floor_inj h
  subst h
  have ef := hF.fn hG
  have ez : itT [tRow L] z i = itT [tRow L] z j := Prod.ext ef e
  obtain ⟨Bi, gi⟩ := hL.turning.fit hL.tab g i
  obtain ⟨p, hp, p0⟩ : ∃ p, j = i + p ∧ 0 < p := ⟨j - i, by omega, by omega⟩
  refine hL.no_twice b gi p0 ?_
  rw [← it_add, ← hp]
  exact ez.symm

/-! ### a trail that is just made, while the law draws on -/
theorem RecAt.soft {K : PySem.W.Frag} {CR CS : Addr} {H : Hp} {r a D Dc wl cl : Addr} {T : List (List Ent)} {z0 : WSt} {n : Nat} {m : CM} {w : Wk} {hs : Hist} (h : RecAt K CR CS H r a D Dc wl cl T z0 n m w hs) : ∀ b ∈ recE a D Dc wl cl hs, Soft H b := by
  obtain ⟨dxr, us, uc, h1, h2, h3, h4, h5⟩ := h.ob
  obtain ⟨dxs, tv, gv, wv, hx, _⟩ := h.str.ob
  intro b hb
  rcases List.mem_append.mp hb with y | y
  · rcases List.mem_cons.mp y with y | y
    · rw [y]
      exact Soft.ins hx
    · rcases List.mem_cons.mp y with y | y
      · rw [y]
        exact Soft.dT h.str.dc
      · rcases List.mem_cons.mp y with y | y
        · rw [y]
          exact Soft.dT h.his.dc
        · rcases List.mem_cons.mp y with y | y
          · rw [y]
            exact Soft.lst h2
          · rw [List.mem_singleton.mp y]
            exact Soft.lst h4
  · obtain ⟨e, he, rfl⟩ := List.mem_map.mp y
    obtain ⟨us', r1, _⟩ := h.his.ls e he
    exact Soft.lst r1
theorem TrlAt.keepB {K : PySem.W.Frag} {CR CS CT : Addr} {H H' : Hp} {t r a D Dc wl cl q : Addr} {T : List (List Ent)} {z0 : WSt} {m : CM} {w : Wk} {hs : Hist} (h : TrlAt K CR CS CT H t r a D Dc wl cl T z0 0 m w hs) (R : Row K H q) (k : KeepB q H H') : TrlAt K CR CS CT H' t r a D Dc wl cl T z0 0 m w hs := by
  have tk := k.row R
  obtain ⟨s, ns, i, mm, c, hq, _⟩ := R
  obtain ⟨dx, tv, fv, wv, e⟩ := h.ob
  obtain ⟨dxr, us, uc, h1, h2, h3, h4, h5⟩ := h.rc.ob
  obtain ⟨⟨dxs, tv2, gv, wv2, hx, q1, q2, q3⟩, hD, nd, nz⟩ := id h.rc.str
  have far : ∀ {b : Addr} {vs : List V}, H b = some (.lst vs) → vs.length ≤ 1 → b ≠ q := fun e1 l z => by
    rw [z, hq] at e1
    injection e1 with e1
    injection e1 with e1
    rw [← e1] at l
    exact absurd l (show ¬ (4 : Nat) ≤ 1 by decide)
  have l2 : us.length ≤ 1 := by
    have g := TpAll.length h3
    rw [List.length_map, wls_len] at g
    omega
  have e2 := k _ _ (far h2 l2) h2
  have keep : ∀ {b : Addr} {o : HO}, (∀ vs, o ≠ .lst vs) → H b = some o → H' b = some o := fun n e => k _ _ (ne_of e hq (n _)) e
  refine ⟨⟨dx, tv, fv, wv, keep (by intro _ z; cases z) e⟩, ⟨⟨dxr, us, uc, keep (by intro _ z; cases z) h1, e2, TpAll.mono tk _ _ h3, k _ _ (far h4 (by omega)) h4, h5⟩, ⟨⟨dxs, tv2, gv, wv2, keep (by intro _ z; cases z) hx, Tp.mono tk _ _ q1, Tp.mono tk _ _ q2, Tp.mono tk _ _ q3⟩, keep (by intro _ z; cases z) hD, nd, nz⟩, h.rc.run, ⟨keep (by intro _ z; cases z) h.rc.his.dc, h.rc.his.nd, fun e he => ?_⟩, h.rc.ok, h.rc.wc, h.rc.ne, h.rc.nda, h.rc.lm, h.rc.lh, h.rc.ll, h.rc.dd⟩, ?_⟩
  · obtain ⟨us', g1, g2⟩ := h.rc.his.ls e he
    have g := TpAll.length g2
    rw [List.length_map] at g
    have := h.rc.ll e he
    exact ⟨us', k _ _ (far g1 (by omega)) g1, TpAll.mono tk _ _ g2⟩
  · obtain ⟨us', g1, g2⟩ := h.tk
    rw [h2] at g1
    injection g1 with g1
    injection g1 with g1
    subst g1
    exact ⟨us, e2, g2.mono tk⟩

/-! ### the law -/
def spLaw (K : PySem.W.Frag) : Sp := fun vs H Q _ => ∃ (a : Addr) (ns : List Int), vs = [.ref a] ∧ Scr K H a ns ∧ ∀ H', Q (.bl true) H'
theorem next_seq {t u : TS} {D : L2.Ends} {rt : VK} {bk ct : L2.St → Hp → Prop} {σ : L2.St} {H : Hp} (h : tSeq t u D σ H) : tNext { nx := tSeq t u D, rt := rt, bk := bk, ct := ct } σ H := h
theorem gname_seq {i : Nat} {v : V} {t u : TS} {D : L2.Ends} {rt : VK} {bk ct : L2.St → Hp → Prop} {σ : L2.St} {H : Hp} (h : tSeq t u D (σ.set i (some v)) H) : gName i v σ H ({ nx := tSeq t u D, rt := rt, bk := bk, ct := ct } : L2.Ends).nx := h
theorem gname_of {i : Nat} {v : V} {σ : L2.St} {H : Hp} {k : L2.St → Hp → Prop} (h : k (σ.set i (some v)) H) : gName i v σ H k := h
theorem nx_seq {t u : TS} {D : L2.Ends} {rt : VK} {bk ct : L2.St → Hp → Prop} {σ : L2.St} {H : Hp} (h : tSeq t u D σ H) : ({ nx := tSeq t u D, rt := rt, bk := bk, ct := ct } : L2.Ends).nx σ H := h
theorem seq_assoc {t u v : TS} {D : L2.Ends} {σ : L2.St} {H : Hp} (h : tSeq (tSeq t u) v D σ H) : tSeq t (tSeq u v) D σ H := h
theorem nx_of {D : L2.Ends} {σ : L2.St} {H : Hp} (h : D.nx σ H) : tNext D σ H := h
/-- as seq_cut, what comes behind being told by its promise alone -/
theorem seq_cutO {t u : TS} {D : L2.Ends} {σ : L2.St} {H : Hp} (Pm : L2.St → Hp → Prop) (h2 : ∀ σ H, Pm σ H → u D σ H) (h1 : ∀ R : L2.St → Hp → Prop, (∀ σ H, Pm σ H → R σ H) → t { D with nx := R } σ H) : tSeq t u D σ H := h1 _ h2
theorem seq_par2 {i j : Nat} {u : TS} {D : L2.Ends} {σ : L2.St} {H : Hp} (h : ∀ W, H W = none → ∀ S, upd H W (.dT []) S = none → u D ((σ.set i (some (.ref W))).set j (some (.ref S))) (upd (upd H W (.dT [])) S (.dT []))) : tSeq (tPar i j (tCons tDNewT (tCons tDNewT tNil))) u D σ H := fun W nW S nS => ⟨_, _, rfl, h W nW S nS⟩
theorem cut4 (xs : List V) : cutV xs none (some 4) = xs.take 4 := by
  have e1 : HT.sIx xs.length 0 none = 0 := rfl
  have e2 : HT.sIx xs.length xs.length (some 4) = min 4 xs.length := by
    unfold HT.sIx
    simp
    try omega
  unfold cutV
  rw [e1, e2]
  show xs.take (min 4 xs.length) = _
  rw [List.take_eq_take_iff]
  try omega
theorem seq_par1 {i j : Nat} {ta tb : TE} {u : TS} {D : L2.Ends} {σ : L2.St} {H : Hp} (h : ta σ H fun x H1 => tb σ H1 fun y H2 => ∃ v w, [x, y] = [v, w] ∧ u D ((σ.set i (some v)).set j (some w)) H2) : tSeq (tPar i j (tCons ta (tCons tb tNil))) u D σ H := h
/-- [place[c] for place in d.keys()] -/
theorem keys_col {K : PySem.W.Frag} {H : Hp} {W : Addr} {ms : CM} {Q : VK} {x0 x1 x2 x3 x4 x5 x6 x8 x9 x10 x11 x12 x13 x14 x15 x16 : Option V} {c : Int} {f : Pt → Int} (hf : ∀ p : Pt, atI ([.int p.1, .int p.2] : List V) c = some (.int (f p))) (lm : ms.length ≤ 900) (hW : H W = some (.dT (cellK ms)))
    (q : ∀ L H', H' L = some (.lst ((ms.map fun e => f e.1).map V.int)) → Same H H' → Q (.ref L) H') : tLockE (tLc (iKeysMT (tVar 7)) (gName 16) tYes (tOp (rIxT K) (tVar 16) (tC (V.int c))) [16]) [x0, x1, x2, x3, x4, x5, x6, some (.ref W), x8, x9, x10, x11, x12, x13, x14, x15, x16] H Q := by
  refine ⟨W, _, hW, trivial, ?_⟩
  intro od
  have fW : (upd H W (.frz od (.dT (cellK ms)))) W = some (.frz od (.dT (cellK ms))) := upd_same
  have kF : ∀ b o, b ≠ W → H b = some o → (upd H W (.frz od (.dT (cellK ms)))) b = some o := fun b o n e => (upd_ne n).trans e
  generalize hHf : upd H W (.frz od (.dT (cellK ms))) = Hf at *
  walk_at "st"
  intro L nL
  have nLW : L ≠ W := fun z => by
    rw [z, fW] at nL
    cases nL
  refine lc_it (walk_keysT (d := W) (o := od) (kvs := cellK ms)) (fun j H' => Ok (Same Hf H' ∧ H' L = some (.lst (((ms.take j).map fun e => f e.1).map V.int)))) ⟨Same.new nL, upd_same⟩ (fun j H' _ ⟨sm, _⟩ => sm _ _ fW) ?_ ?_
  · rintro j x H4 H5 hj ⟨sm, hL⟩ ⟨rfl, k, v, qa, hk, rfl, hqa⟩
    rw [cell_len] at hj
    have e0 : (cellK ms)[j]? = some (ptK ms[j].1, V.int ms[j].2) := by
      unfold cellK
      rw [List.getElem?_map, List.getElem?_eq_getElem hj]
      rfl
    rw [e0] at hk
    obtain ⟨rfl, rfl⟩ := Prod.mk.inj (Option.some.inj hk)
    have tk1 := take_more (List.getElem?_eq_getElem hj)
    generalize ms[j] = e at *
    have hqa : H5 qa = some (.tup [.int e.1.1, .int e.1.2]) := hqa
    have hsq := SqT.of (K := K) hqa
    have hat := hf e.1
    have hsz : (((ms.take j).map fun e => f e.1).map V.int).length < sizeLine := small1000 (by rw [List.length_map, List.length_map, List.length_take]; omega)
    walk_at "st"
    exact ⟨Same.fresh sm nL, by rw [upd_same, tk1, List.map_append, List.map_append]; rfl⟩
  · rintro H4 ⟨sm, hL⟩
    rw [cell_len, List.take_length] at hL
    refine ⟨sm _ _ fW, q L _ (by rw [upd_ne nLW]; exact hL) fun b o e => ?_⟩
    by_cases z : b = W
    · rw [z, upd_same, ← hW, ← z]
      exact e
    · rw [upd_ne z]
      exact sm _ _ (kF _ _ z e)
/-- a turning table, a stand, and the trail of its walk -/
structure WalkAt (K : PySem.W.Frag) (CR CS CT : Addr) (H : Hp) (tv : V) (t : Addr) (L : List Pt) (z0 : WSt) (B : Int) (N : Nat) : Prop where
  turn : TurnL L
  both : BothL L
  fit : Fit L.length 1 B z0
  b3 : B = 3
  tab : Tp K H tv (tabD [tRow L])
  tr : ∃ (r a D Dc wl cl : Addr) (m : CM) (w2 : Wk) (hs : Hist), TrlAt K CR CS CT H t r a D Dc wl cl [tRow L] z0 N m w2 hs
  n2 : 200 ≤ N
  n5 : N < 500
section
variable {P : Program} {w : World} {K : PySem.W.Frag} {mg : Str → Option Value} {base : Heap}
local macro_rules | `(tactic| walk_at "cl") => `(tactic| first | (refine le_only ?_; omega) | (refine lt_only ?_; omega))
theorem ok_law {f : Addr} {fd : FuncData} (T : Txt K mg) {CR CS CT : Addr} (S : ClsT K mg CT) (mkT : PySem.W.makesIn K CT = true) (kpT : PySem.W.keepIn K (.ref CT) = true) (F : Fun K "law" "law" s_law f fd) (C_law_turning_table : Cal P w K mg base CX0 "_law_turning_table" 3 ["row"] (spTurnT K)) (C_law_taken : Cal P w K mg base CX0 "_law_taken" 1 ["row", "many"] (spTaken K)) (C_law_some_floor : Cal P w K mg base CX0 "_law_some_floor" 3 ["row", "colours", "most"] (spSomeFloor K)) (C_law_walker : Cal P w K mg base CX0 "_law_walker" 3 ["row", "table"] (spLWalker K)) (C_law_power : Cal P w K mg base CX0 "_law_power" 1 ["number", "many"] spPower) (C_never_bounded : Cal P w K mg base CX0 "never_bounded" 6 ["table"] (spNever K)) (TI : MCal P w K mg base CT "__init__" 6 ["self", "table", "floor", "walker"] (spTInit K CR CS CT)) (TG : MCal P w K mg base CT "go_on" 5 ["self", "many"] (spTGo K CR CS CT)) (TW : MCal P w K mg base CT "walker_at" 3 ["self", "step"] (spTWalker K CR CT)) (TF : MCal P w K mg base CT "floor_at" 3 ["self", "step"] (spTFloor K CR CS CT)) : FnOk P w K mg base CX0 8 f fd ["script"] (spLaw K) := by
  refine F.ok sc_law (fun vs H Q E h => ?_) (fun cdv A outer s H vs Q E hr h => ?_)
  · obtain ⟨a, ns, rfl, _⟩ := h
    rfl
  · obtain ⟨a, ns, rfl, hS, q⟩ := h
    refine ⟨_, (pss_cons (ps_set (i := 1) sc_law.nd rfl (Or.inl rfl) (pe_lst (pa_cons (pv 0) (pa_cons pe_int (pa_cons pe_int (pa_cons pe_int pa_nil))))))
      (pss_cons (ps_set (i := 2) sc_law.nd rfl (Or.inl rfl) (pe_own C_law_turning_table hr (by first | decide | omega) (pa_cons (pv 1) pa_nil)))
      (pss_cons (ps_if (pt_cmpR op_notBl (pe_own C_never_bounded hr (by first | decide | omega) (pa_cons (pv 2) pa_nil)) pe_bl (nomark _)) (pss_one (ps_ret pe_bl)) pss_nil)
      (pss_cons (ps_set (i := 3) sc_law.nd rfl (Or.inl rfl) (pe_own C_law_some_floor hr (by first | decide | omega) (pa_cons (pv 1) (pa_cons (pe_callB (k_len_t (K := K)) (by rfl) T.m_len (by decide +kernel) (pa_cons (pe_ix (k_ix_tup (K := K)) (pv 2) pe_int (fun _ _ => rfl)) pa_nil)) (pa_cons pe_int pa_nil)))))
      (pss_cons (ps_set (i := 4) sc_law.nd rfl (Or.inl rfl) (pe_own C_law_walker hr (by first | decide | omega) (pa_cons (pv 1) (pa_cons (pv 2) pa_nil))))
      (pss_cons (ps_asg (pe_tup (pa_cons (pe_ownMk TI mkT kpT hr (by decide) S.mgC (pa_cons (pv 2) (pa_cons (pv 3) (pa_cons (pv 4) pa_nil)))) (pa_cons (pe_op op_add pe_int (pe_own C_law_taken hr (by first | decide | omega) (pa_cons (pv 1) (pa_cons pe_int pa_nil)))) pa_nil))) (pg_tup (by rfl) (pgs_cons (pg_name (i := 5) sc_law.nd rfl (Or.inr rfl)) (pgs_cons (pg_name (i := 6) sc_law.nd rfl (Or.inl rfl)) pgs_nil))))
      (pss_cons (ps_expr (pe_ownM TG S.cl hr (by decide) (pv 5) (pa_cons (pv 6) pa_nil)))
      (pss_cons (ps_par (i := 7) (j := 8) (by rfl) sc_law.nd rfl rfl (by decide) rfl rfl (pa_cons pe_dnewT (pa_cons pe_dnewT pa_nil)) (by rfl))
      (pss_cons (ps_for PassesOwn.never rfl (pi_range2 (by rfl) T.m_range (pa_cons pe_int (pa_cons (pe_op op_add (pv 6) pe_int) pa_nil))) (pg_name (i := 9) sc_law.nd rfl (Or.inl rfl))
      (pss_cons (ps_set (i := 10) sc_law.nd rfl (Or.inl rfl) (pe_ownM TW S.cl hr (by decide) (pv 5) (pa_cons (pv 9) pa_nil)))
      (pss_cons (ps_set (i := 11) sc_law.nd rfl (Or.inl rfl) (pe_op op_mod (pe_callTy call_int_i (by rfl) T.m_int (by decide +kernel) (pa_cons (pe_ix (k_ix_tup (K := K)) (pv 10) pe_int (fun _ _ => rfl)) pa_nil)) pe_int))
      (pss_cons (ps_if (pt_cmpR op_ne (pe_dget2 (hu_of hr) (pv 7) (pe_slice (k_sl_tup (K := K)) (pv 10) po_none (po_some pe_int)) (pv 11) (by exact ⟨rfl, rfl, rfl, rfl⟩)) (pv 11) (nomark _)) (pss_one (ps_ret pe_bl)) pss_nil)
      (pss_cons (ps_dput (hu_of hr) (pv 7) (pe_slice (k_sl_tup (K := K)) (pv 10) po_none (po_some pe_int)) (pv 11) (by rfl))
      (pss_one (ps_dput (hu_of hr) (pv 8) (pv 10) (pe_op op_cat (pe_dget2 (hu_of hr) (pv 8) (pv 10) (pe_lst pa_nil) (by exact ⟨rfl, rfl, rfl, rfl⟩)) (pe_lst (pa_cons (pv 9) pa_nil))) (by rfl))))))))
      (pss_cons (ps_lock (ps_for PassesOwn.never rfl (pi_keysMT (pv 8)) (pg_name (i := 10) sc_law.nd rfl (Or.inl rfl))
      (pss_cons (ps_setLc (i := 12) (own := [("step", 9)]) (g := gName 9) rfl sc_law.nd rfl rfl (sw_true rfl rfl rfl (by decide +kernel)) (k_pi_list (K := K) (pe_slice (k_sl_list (K := K)) (pe_dget (hu_of hr) (pv 8) (pv 10) (fun _ _ => rfl)) po_none (po_some pe_int))) (blkOk_by (by rfl)) (fun _ _ _ _ _ => (pg_name (i := 9) sc_law.nd rfl (Or.inl rfl))) (fun _ _ _ _ _ => pts_nil) (fun _ _ _ _ _ => (pe_ownM TF S.cl hr (by decide) (pv 5) (pa_cons (pv 9) pa_nil))))
      (pss_one (ps_if (pt_cmpR op_lt (pe_lenSetN rfl hr.units (by rfl) T.m_len (by rfl) T.m_set (pv 12)) (pe_callB (k_len_l (K := K)) (by rfl) T.m_len (by decide +kernel) (pa_cons (pv 12) pa_nil)) (nomark _)) (pss_one (ps_ret pe_bl)) pss_nil)))))
      (pss_cons (ps_par (i := 13) (j := 14) (by rfl) sc_law.nd rfl rfl (by decide) rfl rfl (pa_cons (pe_lock (pe_lc (own := [("place", 16)]) (g := gName 16) rfl sc_law.nd (pi_keysMT (pv 7)) (blkOk_by (by rfl)) (fun _ _ _ _ _ => (pg_name (i := 16) sc_law.nd rfl (Or.inl rfl))) (fun _ _ _ _ _ => pts_nil) (fun _ _ _ _ _ => (pe_ix (k_ix_tup (K := K)) (pv 16) pe_int (fun _ _ => rfl))))) (pa_cons (pe_lock (pe_lc (own := [("place", 16)]) (g := gName 16) rfl sc_law.nd (pi_keysMT (pv 7)) (blkOk_by (by rfl)) (fun _ _ _ _ _ => (pg_name (i := 16) sc_law.nd rfl (Or.inl rfl))) (fun _ _ _ _ _ => pts_nil) (fun _ _ _ _ _ => (pe_ix (k_ix_tup (K := K)) (pv 16) pe_int (fun _ _ => rfl))))) pa_nil)) (by rfl))
      (pss_cons (ps_set (i := 15) sc_law.nd rfl (Or.inl rfl) (pe_op op_mul (pe_op op_add (pe_op op_sub (pe_callB (k_max (K := K) rfl) (by rfl) T.m_max (by decide +kernel) (pa_cons (pv 13) pa_nil)) (pe_callB (k_min (K := K) rfl) (by rfl) T.m_min (by decide +kernel) (pa_cons (pv 13) pa_nil))) pe_int) (pe_op op_add (pe_op op_sub (pe_callB (k_max (K := K) rfl) (by rfl) T.m_max (by decide +kernel) (pa_cons (pv 14) pa_nil)) (pe_callB (k_min (K := K) rfl) (by rfl) T.m_min (by decide +kernel) (pa_cons (pv 14) pa_nil))) pe_int)))
      (pss_one (ps_ret (pe_cmpR op_gt (pe_op op_mul (pe_op op_mul pe_int (pv 15)) (pe_own C_law_power hr (by first | decide | omega) (pa_cons (pe_callB (k_len_t (K := K)) (by rfl) T.m_len (by decide +kernel) (pa_cons (pe_ix (k_ix_tup (K := K)) (pv 2) pe_int (fun _ _ => rfl)) pa_nil)) (pa_cons (pe_callB (call_min2 rfl) (by rfl) T.m_min (by decide +kernel) (pa_cons (pv 15) (pa_cons pe_int pa_nil))) pa_nil)))) (pv 6) (nomark _)))))))))))))))), ?_⟩
    walk_at "st"
    intro r nr
    have R0 : Row K (upd H r (.lst [.ref a, .int 0, .int 11109, .int 0])) r := ⟨a, ns, 0, 11109, 0, upd_same, hS.mono (TK.new nr), by decide, by decide, by decide, by decide⟩
    generalize hH0 : upd H r (.lst [.ref a, .int 0, .int 11109, .int 0]) = H0 at *
    refine gname_seq ?_
    refine seq_assoc ?_
    refine seq_assoc ?_
    refine seq_assoc ?_
    refine seq_assoc ?_
    refine seq_assoc ?_
    rw [show L2.start ["script", "row", "table", "floor", "walker", "trail", "many", "ways", "seen", "step", "here", "level", "floors", "columns", "lines", "squares", "place"] [V.ref a] = [some (V.ref a), none, none, none, none, none, none, none, none, none, none, none, none, none, none, none, none] from rfl]
    simp only [List.set_cons_zero, List.set_cons_succ]
    refine seq_cutO (fun σ' H' => ∃ (tv fv wv : V) (t : Addr) (L : List Pt) (z0 : WSt) (B : Int) (N : Nat), σ' = [some (.ref a), some (.ref r), some tv, some fv, some wv, some (.ref t), some (.int (N : Int)), none, none, none, none, none, none, none, none, none, none] ∧ WalkAt K CR CS CT H' tv t L z0 B N) ?_ ?_
    rotate_left
    -- <A
    · intro R hR
      clear hH0 hS nr
      walk_at "st"
      intro tv H1 c L c2 c5 lL tuL pmL ht R1 k1
      have hL : TurnL L := ⟨by omega, by omega, tuL, by rw [lL]; exact pmL⟩
      walk_at "st"
      intro b H2 Rs ro rn eb bo s2
      clear ro rn eb
      have R2 := R1.same s2
      have ht2 := Tp.mono (Same.tk s2) _ _ ht
      cases b with
      | false =>
        walk_at "st"
        refine iteT ?_
        walk_at "st"
        exact q _
      | true =>
        have bo := bo rfl
        obtain ⟨ta, tb, ws, rfl, hta, htb, lw, hws⟩ := tab1 ht2
        walk_at "st"
        intro fv H3 F flk lF hf R3 k3
        have lF8 : F.length ≤ 8 := lF
        have ht3 := Tp.mono (k3.row R2) _ _ ht2
        walk_at "st"
        intro wv H4 wk wb wh wst hw R4 k4
        have ht4 := Tp.mono (k4.row R3) _ _ ht3
        have hf4 := Tp.mono (k4.row R3) _ _ hf
        have lLs : ws.length = L.length := lw
        rw [lLs] at flk
        have wst : 0 ≤ wk.2.2.2 ∧ wk.2.2.2 < ((1 : Nat) : Int) := wst
        have sok : StandOk L.length 1 FarI [tRow L] F wk := StandOk.mono (B := 3) ⟨hL.tab, hL.good, Nat.le_refl _, by omega, flk, wb, wh, wst⟩ (by decide)
        have fit := StandOk.fit (B := 3) ⟨hL.tab, hL.good, Nat.le_refl _, by omega, flk, wb, wh, wst⟩
        clear k3 k4 R3 R2 R1 k1 s2 ht ht2 ht3 hf hta htb hws
        walk_at "st"
        intro x dx nx ndx nex
        have s5 : Same H4 (upd (upd H4 dx (.own x)) x (.ins CT dx [])) := fun b o e => by
          rw [upd_ne (ne_of_none e nx), upd_ne (ne_of_none e ndx)]
          exact e
        have hx5 : (upd (upd H4 dx (.own x)) x (.ins CT dx [])) x = some (.ins CT dx []) := upd_same
        have rx : r ≠ x := by
          obtain ⟨xs, e⟩ := R4.lst
          exact ne_of_none e nx
        generalize hH5 : upd (upd H4 dx (.own x)) x (.ins CT dx []) = H5 at *
        have t5 := Same.tk s5
        refine ⟨x, dx, _, fv, wv, L.length, 1, [tRow L], F, wk, rfl, hx5, Tp.mono t5 _ _ ht4, Tp.mono t5 _ _ hf4, Tp.mono t5 _ _ hw, sok, by omega, fun r0 a0 D0 Dc wl cl hs H6 A6 k6 => ⟨rfl, ?_⟩⟩
        have R5 := R4.same s5
        have t6 := tkS (Soft.ins hx5) k6
        have R6 : Row K H6 r := R5.keep t6 (by
          obtain ⟨xs, e⟩ := R5.lst
          rw [e]
          exact k6 _ _ (fun z => rx (List.mem_singleton.mp z)) e)
        have ht6 := Tp.mono (t5.trans t6) _ _ ht4
        clear R0 hx5 s5 t5 t6 R4 R5 k6 nx ndx nex hf4 hw ht4 hH5
        walk_at "st"
        intro v H7 v0 v1 R7 k7
        have A7 := A6.keepB R6 k7
        have ht7 := Tp.mono (k7.row R6) _ _ ht6
        clear A6 ht6 R6 k7
        walk_at "st"
        intro pt npt
        have s8 : Same H7 (upd H7 pt (.tup [.ref x, .int (200 + v)])) := Same.new npt
        have A8 := A7.same s8
        have ht8 := Tp.mono (Same.tk s8) _ _ ht7
        have R8 := R7.same s8
        have hpt : SqT K (upd H7 pt (.tup [.ref x, .int (200 + v)])) pt [.ref x, .int (200 + v)] := SqT.of upd_same
        generalize hH8 : upd H7 pt (.tup [.ref x, .int (200 + v)]) = H8 at *
        clear hH8 s8 A7 ht7 R7 npt
        obtain ⟨dxx, tvx, fvx, wvx, hx8⟩ := id A8.ob
        have tab := hL.tab
        have noG : (trF tvx fvx wvx r0).lookup ("go_on" : Str) = none := tno (by decide +kernel)
        have m0 : (0 : Int) ≤ 200 + v := by omega
        have m1 : ((0 : Nat) : Int) + (200 + v) ≤ 800 := by
          show (0 : Int) + (200 + v) ≤ 800
          omega
        have alive : ∀ j : Nat, (j : Int) < ((0 : Nat) : Int) + (200 + v) → ∀ y, runW [tRow L] j (colF F, wk) = some y → stepW [tRow L] y ≠ none := fun j _ y hy z => by
          rw [hL.run fit j] at hy
          have hy := Option.some.inj hy
          have e := hL.run fit (j + 1)
          have e : (runW [tRow L] j (colF F, wk)).bind (stepW [tRow L]) = _ := e
          rw [hL.run fit j, hy] at e
          have e : stepW [tRow L] y = _ := e
          rw [z] at e
          cases e
        walk_at "st"
        intro N m' w' hs' H9 eN A9 k9
        have eN : (N : Int) = 200 + v := by
          have z : (N : Int) = (0 : Int) + (200 + v) := eN
          omega
        rw [← eN]
        exact hR _ _ ⟨.ref ta, fv, wv, x, L, (colF F, wk), 3, N, rfl, hL, bo, fit, rfl, Tp.mono (k9.tk A8.rc.soft) _ _ ht8, ⟨_, _, _, _, _, _, _, _, _, A9⟩, by omega, by omega⟩
    -- >A
    · rintro σ' H1 ⟨tv, fv, wv, t, L, z0, B, N, rfl, hW⟩
      clear hH0 R0 hS nr
      obtain ⟨c0, ec⟩ : ∃ c0, (z0.2.1 + z0.2.2.1 + z0.2.2.2.1) % 2 = c0 := ⟨_, rfl⟩
      have parW := hW.turn.turning.par hW.turn.tab hW.fit
      refine seq_assoc ?_
      refine seq_cutO (fun σ' H' => ∃ (W S : Addr) (ms : CM) (kvs : List (List Key × V)) (y9 y10 y11 : Option V), σ' = [some (.ref a), some (.ref r), some tv, some fv, some wv, some (.ref t), some (.int (N : Int)), some (.ref W), some (.ref S), y9, y10, y11, none, none, none, none, none] ∧ H' W = some (.dT (cellK ms)) ∧ H' S = some (.dT kvs) ∧ W ≠ S ∧ Same H1 H' ∧ H1 W = none ∧ H1 S = none ∧ WaysOk ms (fun j => (itT [tRow L] z0 j).2) c0 N ∧ SeenOk H' kvs (fun j => (itT [tRow L] z0 j).2) N) ?_ ?_
      rotate_left
      -- <B
      · intro R hR
        refine seq_par2 fun W nW S nS => ?_
        simp only [List.set_cons_zero, List.set_cons_succ]
        have sW : Same H1 (upd H1 W (.dT [])) := Same.new nW
        have sS : Same (upd H1 W (.dT [])) (upd (upd H1 W (.dT [])) S (.dT [])) := Same.new nS
        have nS1 : H1 S = none := Same.back sW nS
        have hW2 : (upd (upd H1 W (.dT [])) S (.dT [])) W = some (.dT (cellK [])) := sS _ _ upd_same
        have hS2 : (upd (upd H1 W (.dT [])) S (.dT [])) S = some (.dT []) := upd_same
        have WS : W ≠ S := ne_of_none upd_same nS
        have s2 := Same.trans sW sS
        generalize hH2 : upd (upd H1 W (.dT [])) S (.dT []) = H2 at *
        clear sW sS hH2 nS
        have N5 := hW.n5
        have N62 : (N : Int) + 1 < 2 ^ 62 := by omega
        have N63 : -2 ^ 62 ≤ (N : Int) + 1 := by omega
        obtain ⟨r0, a0, D0, Dc, wl, cl, mm, w2, hs, A1⟩ := hW.tr
        have hL := hW.turn
        have fit := hW.fit
        walk_at "st"
        refine for_range (lo := 1) (n := ((N : Int) + 1 - 1).toNat) (fun i σ H' => Ok (∃ (ms : CM) (kvs : List (List Key × V)) (y9 y10 y11 : Option V), σ = [some (.ref a), some (.ref r), some tv, some fv, some wv, some (.ref t), some (.int (N : Int)), some (.ref W), some (.ref S), y9, y10, y11, none, none, none, none, none] ∧ H' W = some (.dT (cellK ms)) ∧ H' S = some (.dT kvs) ∧ Same H1 H' ∧ WaysOk ms (fun j => (itT [tRow L] z0 j).2) c0 i ∧ SeenOk H' kvs (fun j => (itT [tRow L] z0 j).2) i)) ?_ ?_ ?_
        · exact ⟨[], [], _, _, _, rfl, hW2, hS2, s2, WaysOk.nil _ _, SeenOk.nil _ _⟩
        · rintro i σ H3 hi ⟨ms, kvs, y9, y10, y11, rfl, hW3, hS3, s13, wo, so⟩
          have iN : i < N := by omega
          have A3 := A1.same s13
          have hTr := A3.tr
          obtain ⟨dxx, tvx, fvx, wvx, hx3⟩ := id A3.ob
          have noW : (trF tvx fvx wvx r0).lookup ("walker_at" : Str) = none := tno (by decide +kernel)
          have run1 := hL.run fit (i + 1)
          have hwl : (wls [tRow L] z0 (N + 1))[i + 1]? = some (itT [tRow L] z0 (i + 1)).2 := by
            unfold wls
            rw [List.getElem?_map, List.getElem?_range (by omega), Option.map_some, run1]
            rfl
          rw [show (1 : Int) + ((i : Nat) : Int) = ((i + 1 : Nat) : Int) by omega]
          walk_at "st"
          intro hv hhv hk
          obtain ⟨hb, rfl, hhb⟩ := A3.trk run1 hk
          have par1 := parW (i + 1)
          rw [ec] at par1
          obtain ⟨Bu, fitu⟩ := hL.turning.fit hL.tab fit (i + 1)
          have hin : InB 600 (wPt (itT [tRow L] z0 (i + 1)).2) := ((fit.run hL.tab run1).wk).mono (by rw [hW.b3]; omega)
          have hdu := fitu.hd
          have wo2 := wo.put par1 hin
          have same := wo.same par1
          have soval := so.val (itT [tRow L] z0 (i + 1)).2
          have soput := fun H' k lc ls => so.put (H' := H') k (lc := lc) (ls := ls)
          generalize hu : (itT [tRow L] z0 (i + 1)).2 = u at *
          have hsq : SqT K H3 hb [.int u.1, .int u.2.1, .int u.2.2.1, .int u.2.2.2] := SqT.of hhb
          have bag := And.intro soval (And.intro wo2 same)
          have wnd := wo.nd
          have wlen := wo.len
          have slen := so.len
          clear N62 N63 parW hhv hk run1 hwl noW hx3 hTr wo hin soval wo2 same
          have dW := isD_dT hW3
          have dS := isD_dT hS3
          walk_at "st"
          intro p np
          have s4 : Same H3 (upd H3 p (.tup [.int u.1, .int u.2.1])) := Same.new np
          have hp4 : (upd H3 p (.tup [.int u.1, .int u.2.1])) p = some (.tup [.int u.1, .int u.2.1]) := upd_same
          have hg : DGet (upd H3 p (.tup [.int u.1, .int u.2.1])) W (.ref p) (valV (cellK ms) (ptK (wPt u))) := DGet.t (s4 _ _ hW3) upd_same
          generalize hH4 : upd H3 p (.tup [.int u.1, .int u.2.1]) = H4 at *
          rw [show (upd H3 p (.tup (cutV [.int u.1, .int u.2.1, .int u.2.2.1, .int u.2.2.2] none (some 2)))) = H4 from hH4]
          rw [cell_val] at hg
          walk_at "st"
          rw [bag.2.2]
          walk_at "st"
          refine ite2 (fun e => absurd e (by simp)) (fun _ => ?_)
          have hW4 := s4 _ _ hW3
          have hhb4 := s4 _ _ hhb
          have hsq4 : SqT K H4 hb [.int u.1, .int u.2.1, .int u.2.2.1, .int u.2.2.2] := SqT.of hhb4
          clear hg hp4 np dW hsq
          refine next_seq ?_
          walk_at "st"
          intro p2 np2
          have s5 : Same H4 (upd H4 p2 (.tup [.int u.1, .int u.2.1])) := Same.new np2
          have hp5 : (upd H4 p2 (.tup [.int u.1, .int u.2.1])) p2 = some (.tup [.int u.1, .int u.2.1]) := upd_same
          generalize hH5 : upd H4 p2 (.tup [.int u.1, .int u.2.1]) = H5 at *
          rw [show (upd H4 p2 (.tup (cutV [.int u.1, .int u.2.1, .int u.2.2.1, .int u.2.2.2] none (some 2)))) = H5 from hH5]
          have s35 := Same.trans s4 s5
          have hW5 := s5 _ _ hW4
          have hsz : (cellK ms).length < sizeLine := by
            rw [cell_len]
            exact small1000 (by omega)
          have hwp : DPut H5 W (.ref p2) (.int (u.2.2.1 % 2)) (upd H5 W (.dT (putK (cellK ms) (ptK (wPt u)) (.int (u.2.2.1 % 2))))) := DPut.t hW5 hp5 hsz
          rw [cell_put _ _ wnd] at hwp
          have hS5 := s35 _ _ hS3
          have hhb5 := s35 _ _ hhb
          have hS6 : (upd H5 W (.dT (cellK (putM ms (wPt u) (u.2.2.1 % 2))))) S = some (.dT kvs) := by rw [upd_ne WS.symm]; exact hS5
          have hhb6 : (upd H5 W (.dT (cellK (putM ms (wPt u) (u.2.2.1 % 2))))) hb = some (.tup (wkV u)) := by rw [upd_ne (ne_of hhb5 hW5 (by intro z; cases z))]; exact hhb5
          have hW6 : (upd H5 W (.dT (cellK (putM ms (wPt u) (u.2.2.1 % 2))))) W = some (.dT (cellK (putM ms (wPt u) (u.2.2.1 % 2)))) := upd_same
          have l6 : ∀ ad us, H3 ad = some (.lst us) → (upd H5 W (.dT (cellK (putM ms (wPt u) (u.2.2.1 % 2))))) ad = some (.lst us) := fun ad us e => by
            have e5 := s35 _ _ e
            rw [upd_ne (ne_of e5 hW5 (by intro z; cases z))]
            exact e5
          have s16 : Same H1 (upd H5 W (.dT (cellK (putM ms (wPt u) (u.2.2.1 % 2))))) := Same.fresh (Same.trans s13 s35) nW
          walk_at "st"
          generalize hH6 : upd H5 W (.dT (cellK (putM ms (wPt u) (u.2.2.1 % 2)))) = H6 at *
          clear hH6 hH5 hH4 hwp hsz hhb5 hS5 hW5 s35 s5 np2 hp5 hsq4 hhb4 hW4 s4 dS hhb hu
          have dS6 := isD_dT hS6
          walk_at "st"
          intro la nla
          have s7 : Same H6 (upd H6 la (.lst [])) := Same.new nla
          have hla : (upd H6 la (.lst [])) la = some (.lst (stV [])) := upd_same
          generalize hH7 : upd H6 la (.lst []) = H7 at *
          have hS7 := s7 _ _ hS6
          have hhb7 := s7 _ _ hhb6
          have hg7 : DGet H7 S (.ref hb) (valV kvs (wkK u)) := DGet.t hS7 hhb7
          obtain ⟨lo, ls, elo, hlo, sols, okls⟩ : ∃ lo ls, (valV kvs (wkK u)).getD (.ref la) = .ref lo ∧ H7 lo = some (.lst (stV ls)) ∧ ls.Pairwise (· < ·) ∧ ∀ j ∈ ls, 1 ≤ j ∧ j ≤ i ∧ (itT [tRow L] z0 j).2 = u := by
            cases q : valV kvs (wkK u) with
            | none => exact ⟨la, [], rfl, hla, List.Pairwise.nil, fun j h => absurd h List.not_mem_nil⟩
            | some v =>
              obtain ⟨ad, ls, rfl, e2, e3, e4⟩ := bag.1 v q
              exact ⟨ad, ls, rfl, s7 _ _ (l6 _ _ e2), e3, e4⟩
          walk_at "st"
          intro lb nlb
          rw [elo]
          have s8 : Same H7 (upd H7 lb (.lst [.int ((i + 1 : Nat) : Int)])) := Same.new nlb
          have hlb : (upd H7 lb (.lst [.int ((i + 1 : Nat) : Int)])) lb = some (.lst [.int ((i + 1 : Nat) : Int)]) := upd_same
          generalize hH8 : upd H7 lb (.lst [.int ((i + 1 : Nat) : Int)]) = H8 at *
          have hlo8 : H8 lo = some (.lst (stV ls)) := s8 _ _ hlo
          have lls : ls.length ≤ i := by
            have nd : ls.Nodup := sols.imp fun {a b} h => by omega
            have sub : ∀ x ∈ ls, x ∈ List.range' 1 i := fun x hx => by
              rw [List.mem_range'_1]
              have := okls x hx
              omega
            have z := nodup_sub nd sub
            rw [List.length_range'] at z
            exact z
          have hsz2 : (stV ls).length + [V.int ((i + 1 : Nat) : Int)].length ≤ sizeLine := by
            rw [List.length_map]
            exact small_le (by show ls.length + 1 ≤ 1000; omega)
          walk_at "st"
          intro lc nlc
          have s9 : Same H8 (upd H8 lc (.lst (stV ls ++ [.int ((i + 1 : Nat) : Int)]))) := Same.new nlc
          have hlc : (upd H8 lc (.lst (stV ls ++ [.int ((i + 1 : Nat) : Int)]))) lc = some (.lst (stV (ls ++ [i + 1]))) := by
            rw [upd_same]
            unfold stV
            rw [List.map_append]
            rfl
          generalize hH9 : upd H8 lc (.lst (stV ls ++ [.int ((i + 1 : Nat) : Int)])) = H9 at *
          have s69 := Same.trans s7 (Same.trans s8 s9)
          have hS9 := s69 _ _ hS6
          have hhb9 := s69 _ _ hhb6
          have hW9 := s69 _ _ hW6
          have hsz3 : kvs.length < sizeLine := small1000 (by omega)
          have hsp : DPut H9 S (.ref hb) (.ref lc) (upd H9 S (.dT (putK kvs (wkK u) (.ref lc)))) := DPut.t hS9 hhb9 hsz3
          walk_at "st"
          refine ⟨_, _, _, _, _, rfl, by rw [upd_ne WS]; exact hW9, upd_same, Same.fresh (Same.trans s16 s69) nS1, bag.2.1, ?_⟩
          have fin := soput (upd H9 S (.dT (putK kvs (wkK u) (.ref lc)))) (fun ad us e => by
            have e9 := s69 _ _ (l6 ad us e)
            rw [upd_ne (ne_of e9 hS9 (by intro z; cases z))]
            exact e9) lc ls (by rw [upd_ne (ne_of hlc hS9 (by intro z; cases z))]; exact hlc) sols okls
          exact fin
        · rintro σ H3 ⟨ms, kvs, y9, y10, y11, rfl, hW3, hS3, s13, wo, so⟩
          have eN : ((N : Int) + 1 - 1).toNat = N := by omega
          rw [eN] at wo so
          exact nx_of (hR _ _ ⟨W, S, ms, kvs, y9, y10, y11, rfl, hW3, hS3, WS, s13, nW, nS1, wo, so⟩)
      -- >B
      · rintro σ' H2 ⟨W, S, ms, kvs, y9, y10, y11, rfl, hW2, hS2, WS, s12, nW, nS, wo, so⟩
        have hL := hW.turn
        have fit := hW.fit
        refine seq_cutO (fun σ' H' => ∃ (y9 y10 y12 : Option V), σ' = [some (.ref a), some (.ref r), some tv, some fv, some wv, some (.ref t), some (.int (N : Int)), some (.ref W), some (.ref S), y9, y10, y11, y12, none, none, none, none] ∧ H' W = some (.dT (cellK ms)) ∧ Same H1 H') ?_ ?_
        rotate_left
        -- <C
        · intro R hR
          obtain ⟨r0, a0, D0, Dc, wl, cl, mm, w2, hs, A1⟩ := hW.tr
          refine ⟨S, _, hS2, trivial, ?_⟩
          intro od
          have fS : (upd H2 S (.frz od (.dT kvs))) S = some (.frz od (.dT kvs)) := upd_same
          have kF : ∀ b o, b ≠ S → H2 b = some o → (upd H2 S (.frz od (.dT kvs))) b = some o := fun b o n e => (upd_ne n).trans e
          have bF : ∀ b, (upd H2 S (.frz od (.dT kvs))) b = none → H2 b = none := fun b e => by
            by_cases z : b = S
            · rw [z, upd_same] at e
              cases e
            · rw [upd_ne z] at e
              exact e
          have s1F : Same H1 (upd H2 S (.frz od (.dT kvs))) := Same.fresh s12 nS
          have hWF := kF _ _ WS hW2
          have soF := so.on (H' := upd H2 S (.frz od (.dT kvs))) fun ad us e => kF _ _ (ne_of e hS2 (by intro z; cases z)) e
          generalize hHf : upd H2 S (.frz od (.dT kvs)) = Hf at *
          walk_at "st"
          refine for_it (walk_keysT (d := S) (o := od) (kvs := kvs)) (fun i σ H' => Ok (∃ (y9 y10 y12 : Option V), σ = [some (.ref a), some (.ref r), some tv, some fv, some wv, some (.ref t), some (.int (N : Int)), some (.ref W), some (.ref S), y9, y10, y11, y12, none, none, none, none] ∧ Same Hf H')) ⟨_, _, _, rfl, Same.refl _⟩ (fun i σ H' _ ⟨_, _, _, _, s3⟩ => s3 _ _ fS) ?_ ?_
          · rintro i x σ H3 H4 hi ⟨y9, y10, y12, rfl, s3⟩ ⟨rfl, k, v, qa, hk, rfl, hqa⟩
            have hmem : k ∈ kvs.map (·.1) := List.mem_map.mpr ⟨(k, v), List.mem_of_getElem? hk, rfl⟩
            obtain ⟨u, rfl⟩ := so.keys k hmem
            obtain ⟨v0, hv0⟩ := valV_of_mem hmem
            obtain ⟨ad, ls, rfl, had, sols, okls⟩ := soF.val u v0 hv0
            have had3 := s3 _ _ had
            have fS3 := s3 _ _ fS
            have hg : DGet H4 S (.ref qa) (some (.ref ad)) := by
              rw [← hv0]
              exact .inr ⟨kvs, wkK u, qa, .inr ⟨od, fS3⟩, rfl, hqa, rfl⟩
            have hSad := SqL.of (K := K) had3
            clear hk hmem hv0 hqa
            walk_at "st"
            intro sl nsl
            rw [cut4, show (stV ls).take 4 = stV (ls.take 4) from (List.map_take ..).symm]
            have s5 : Same H4 (upd H4 sl (.lst (stV (ls.take 4)))) := Same.new nsl
            have hsl : (upd H4 sl (.lst (stV (ls.take 4)))) sl = some (.lst (stV (ls.take 4))) := upd_same
            generalize hH5 : upd H4 sl (.lst (stV (ls.take 4))) = H5 at *
            refine ⟨sl, rfl, ⟨_, SqL.of hsl⟩, ?_⟩
            intro D nD
            have s1F5 := Same.trans s1F (Same.trans s3 s5)
            have l4 : (ls.take 4).length ≤ 4 := by rw [List.length_take]; omega
            have ok4 : ∀ j ∈ ls.take 4, 1 ≤ j ∧ j ≤ N ∧ (itT [tRow L] z0 j).2 = u := fun j hj => okls j (List.mem_of_mem_take hj)
            have so4 : (ls.take 4).Pairwise (· < ·) := sols.sublist (List.take_sublist _ _)
            generalize ls.take 4 = l at *
            have n8 : N ≤ 800 := by
              have := hW.n5
              omega
            refine lc_it (walk_list (K := K) (a := sl) (xs := stV l)) (fun j H' => Ok (Same H5 H' ∧ ∃ ps : List (Addr × List Sq), H' D = some (.lst (ps.map fun p => .ref p.1)) ∧ ps.length = j ∧ (∀ p ∈ ps, Tp K H' (.ref p.1) (floorD p.2)) ∧ ∀ (m : Nat) p, ps[m]? = some p → ∃ q, l[m]? = some q ∧ FloorOf (itT [tRow L] z0 q).1 p.2)) ⟨Same.new nD, [], upd_same, rfl, fun p h => absurd h List.not_mem_nil, fun m p h => (by simp at h)⟩ (fun j H' _ ⟨sm, _⟩ => SqL.of (sm _ _ hsl)) ?_ ?_
            · rintro j x H6 H7 hj ⟨s6, ps, hD, lps, tps, fps⟩ ⟨rfl, hx⟩
              rw [List.getElem?_map] at hx
              obtain ⟨q0, hq0, rfl⟩ := Option.map_eq_some_iff.mp hx
              obtain ⟨q1, q2, q3⟩ := ok4 q0 (List.mem_of_getElem? hq0)
              have A7 := A1.same (Same.trans s1F5 s6)
              obtain ⟨dxx, tvx, fvx, wvx, hx7⟩ := id A7.ob
              have noF : (trF tvx fvx wvx r0).lookup ("floor_at" : Str) = none := tno (by decide +kernel)
              have run1 := hL.run fit q0
              have nn : ∀ p, 0 ≤ (itT [tRow L] z0 q0).1 p := fun p => by
                obtain ⟨B', g'⟩ := hL.turning.fit hL.tab fit q0
                exact (g'.cols p).1
              have lj : j < 4 := by
                have z := (List.getElem?_eq_some_iff.mp hq0).1
                omega
              walk_at "st"
              intro fl H8 F' ho lF' tF' s8
              obtain ⟨b, us', rfl, _, _⟩ := Tp.tupI tF'
              have hD8 := s8 _ _ hD
              have t8 : TK H8 (upd H8 D (.lst ((ps.map fun p => V.ref p.1) ++ [.ref b]))) := TK.lst hD8
              refine ⟨_, hD8, small1000 (by rw [List.length_map]; omega), Same.fresh (Same.trans s6 s8) nD, ps ++ [(b, F')], ?_, by rw [List.length_append, lps]; rfl, fun p hp => ?_, fun m p hm => ?_⟩
              · rw [upd_same, List.map_append]
                rfl
              · rcases List.mem_append.mp hp with g | g
                · exact Tp.mono ((Same.tk s8).trans t8) _ _ (tps p g)
                · rw [List.mem_singleton.mp g]
                  exact Tp.mono t8 _ _ tF'
              · rcases Nat.lt_or_ge m ps.length with g | g
                · rw [List.getElem?_append_left g] at hm
                  exact fps m p hm
                · rw [List.getElem?_append_right g, List.getElem?_singleton] at hm
                  split at hm
                  · have hm := Option.some.inj hm
                    subst hm
                    have em : m = j := by omega
                    rw [em]
                    exact ⟨q0, hq0, ho⟩
                  · cases hm
            · rintro H6 ⟨s6, ps, hD, lps, tps, fps⟩
              obtain ⟨qs, eqs⟩ : ∃ qs : List (Addr × PyData), qs = ps.map fun p => (p.1, floorD p.2) := ⟨_, rfl⟩
              have lqs : qs.length = ps.length := by rw [eqs, List.length_map]
              have eD : (ps.map fun p => V.ref p.1) = qs.map fun p => V.ref p.1 := by
                rw [eqs, List.map_map]
                rfl
              rw [eD] at hD
              have hSD : SqL K H6 D (qs.map fun p => V.ref p.1) := SqL.of hD
              have tq : ∀ p ∈ qs, Tp K H6 (.ref p.1) p.2 ∧ numK (nkOf p.2) = true ∧ (nkOf p.2).depth ≤ 8 := fun p hp => by
                rw [eqs] at hp
                obtain ⟨p0, hp0, rfl⟩ := List.mem_map.mp hp
                exact ⟨tps p0 hp0, nk_floor p0.2⟩
              have lst4 : (stV l).length ≤ 4 := by rw [List.length_map]; exact l4
              have lq4 : qs.length ≤ 4 := by omega
              have ndq : (qs.map fun p => nkOf p.2).Nodup := by
                rw [eqs, List.map_map]
                refine List.nodup_iff_pairwise_ne.mpr (List.pairwise_iff_getElem.mpr fun m1 m2 h1 h2 lt => ?_)
                rw [List.length_map] at h1 h2
                simp only [List.getElem_map, Function.comp]
                obtain ⟨a1, b1, f1⟩ := fps m1 ps[m1] (List.getElem?_eq_getElem h1)
                obtain ⟨a2, b2, f2⟩ := fps m2 ps[m2] (List.getElem?_eq_getElem h2)
                obtain ⟨g1, e1⟩ := List.getElem?_eq_some_iff.mp b1
                obtain ⟨g2, e2⟩ := List.getElem?_eq_some_iff.mp b2
                have lt2 := List.pairwise_iff_getElem.mp so4 m1 m2 g1 g2 lt
                rw [e1, e2] at lt2
                have o1 := (ok4 a1 (List.mem_of_getElem? b1)).2.2
                have o2 := (ok4 a2 (List.mem_of_getElem? b2)).2.2
                exact hL.unlike hW.both fit lt2 (o1.trans o2.symm) f1 f2
              clear eqs tps fps eD lps
              walk_at "st"
              refine ite2 (fun e => absurd (of_decide_eq_true e) (by rw [List.length_map]; omega)) (fun _ => ?_)
              walk_at "st"
              exact ⟨_, _, _, rfl, Same.trans s3 (Same.trans s5 s6)⟩
          · rintro σ H3 ⟨y9, y10, y12, rfl, s3⟩
            refine ⟨s3 _ _ fS, hR _ _ ⟨y9, y10, y12, rfl, ?_, ?_⟩⟩
            · rw [upd_ne WS]
              exact s3 _ _ hWF
            · exact Same.fresh (Same.trans s1F s3) nS
        -- >C
        · rintro σ' H3 ⟨y9, y10, y12, rfl, hW3, s13⟩
          clear so hS2 hW2 s12 H2
          have N5 := hW.n5
          have lm9 : ms.length ≤ 900 := by
            have := wo.len
            omega
          obtain ⟨ta, tb, ws, rfl, hta, htb, lw, hws⟩ := tab1 hW.tab
          refine seq_par1 ?_
          refine keys_col (K := K) (W := W) (ms := ms) (c := 0) (f := Prod.fst) (fun p => rfl) lm9 hW3 fun C1 H4 hC1 s4 => ?_
          refine keys_col (K := K) (W := W) (ms := ms) (c := 1) (f := Prod.snd) (fun p => rfl) lm9 (s4 _ _ hW3) fun C2 H5 hC2 s5 => ?_
          refine ⟨_, _, rfl, ?_⟩
          simp only [List.set_cons_zero, List.set_cons_succ]
          have hC15 := s5 _ _ hC1
          have t5 := Same.tk (Same.trans s13 (Same.trans s4 s5))
          have hta5 := t5.seqT hta
          have htb5 := t5.seqT htb
          have q1 := SqL.of (K := K) hC15
          have q2 := SqL.of (K := K) hC2
          have key1 := wo.all 1 (Nat.le_refl _) (by have := hW.n2; omega)
          have mpos : 0 < ms.length := by
            obtain ⟨e, he, _⟩ := List.mem_map.mp key1
            exact List.length_pos_of_mem he
          have pos1 : 0 < (ms.map fun e => e.1.1).length := by rw [List.length_map]; exact mpos
          have pos2 : 0 < (ms.map fun e => e.1.2).length := by rw [List.length_map]; exact mpos
          have bx : ∀ x ∈ ms.map (fun e => e.1.1), -600 ≤ x ∧ x ≤ 600 := fun x hx => by
            obtain ⟨e, he, rfl⟩ := List.mem_map.mp hx
            exact (wo.bd e he).1
          have by_ : ∀ x ∈ ms.map (fun e => e.1.2), -600 ≤ x ∧ x ≤ 600 := fun x hx => by
            obtain ⟨e, he, rfl⟩ := List.mem_map.mp hx
            exact (wo.bd e he).2
          walk_at "st"
          intro xM mxM geM
          have b1 := bx xM mxM
          walk_at "st"
          intro xm mxm lem
          have b2 := bx xm mxm
          have xle : xm ≤ xM := lem xM mxM
          walk_at "st"
          intro yM myM geN
          have b3 := by_ yM myM
          walk_at "st"
          intro ym mym len
          have b4 := by_ ym mym
          have yle : ym ≤ yM := len yM myM
          have cm1 : CMul (xM - xm + 1) (yM - ym + 1) := .inl ⟨by omega, by omega⟩
          obtain ⟨wd, ewd⟩ : ∃ wd : Nat, (wd : Int) = xM - xm + 1 := ⟨(xM - xm + 1).toNat, by omega⟩
          obtain ⟨hg, ehg⟩ : ∃ hg : Nat, (hg : Int) = yM - ym + 1 := ⟨(yM - ym + 1).toNat, by omega⟩
          have sqb : wd * hg ≤ 1442401 := Nat.le_trans (Nat.mul_le_mul (show wd ≤ 1201 by omega) (show hg ≤ 1201 by omega)) (by decide)
          have esq : (xM - xm + 1) * (yM - ym + 1) = ((wd * hg : Nat) : Int) := by rw [← ewd, ← ehg]; exact (Int.natCast_mul ..).symm
          have c4 : CMul 4 ((xM - xm + 1) * (yM - ym + 1)) := .inl ⟨by decide, by decide⟩
          have room := hW.turn.room hW.both (z := itT [tRow L] z0 1) (hW.fit.run hW.turn.tab (hW.turn.run hW.fit 1)) (x0 := xm) (y0 := ym) (w := wd) (h := hg) (N := N) (by omega) (by omega) (by omega) hW.turn.l2 (fun k hk => ?_)
          · have bag := And.intro room (And.intro esq (And.intro ewd ehg))
            have sq0 : (xM - xm + 1) * (yM - ym + 1) ≤ 1442401 := by rw [esq]; omega
            have sq1 : 0 ≤ (xM - xm + 1) * (yM - ym + 1) := by rw [esq]; omega
            clear room esq ewd ehg geM lem geN len bx by_ b1 b2 b3 b4 xle yle mxM mxm myM mym pos1 pos2 mpos key1 q1 q2 hC15 hC2 hC1 parW ec wo
            refine ⟨_, _, rfl, rfl, ?_⟩
            refine ⟨_, _, rfl, rfl, ?_⟩
            refine ⟨_, _, rfl, rfl, cm1, ?_⟩
            refine gname_of ?_
            simp only [List.set_cons_zero, List.set_cons_succ]
            generalize (xM - xm + 1) * (yM - ym + 1) = sq at *
            clear cm1
            have mn0 : (-1000 : Int) ≤ (if (40 : Int) < sq then 40 else sq) := by split <;> omega
            have mn1 : (if (40 : Int) < sq then 40 else sq) ≤ (1000 : Int) := by split <;> omega
            have l6 := hW.turn.l6
            have a40 : (0 : Int) ≤ (ws.length : Int) := by omega
            have a41 : (ws.length : Int) < 2 ^ 40 := by omega
            have c5 : CMul (4 * sq) ((ws.length : Int) ^ (if (40 : Int) < sq then (40 : Int) else sq).toNat) := .inl ⟨by omega, by omega⟩
            walk_at "st"
            have fin : (N : Int) < 4 * sq * (ws.length : Int) ^ (if (40 : Int) < sq then (40 : Int) else sq).toNat := by
              obtain ⟨room, esq, _, _⟩ := bag
              have e1 : (if (40 : Int) < sq then (40 : Int) else sq).toNat = min (wd * hg) 40 := by
                split <;> omega
              rw [e1, lw, esq]
              have z := Int.ofNat_lt.mpr room
              rw [Int.natCast_mul, Int.natCast_mul 4, Int.natCast_pow] at z
              exact z
            show Q (V.bl (decide ((N : Int) < 4 * sq * (ws.length : Int) ^ (if (40 : Int) < sq then (40 : Int) else sq).toNat))) H5
            rw [decide_eq_true fin]
            exact q _
          · rw [← it_add]
            have m := wo.all (1 + k) (by omega) (by omega)
            obtain ⟨e, he, ee⟩ := List.mem_map.mp m
            have m1 : e.1.1 ∈ ms.map (fun e => e.1.1) := List.mem_map.mpr ⟨e, he, rfl⟩
            have m2 : e.1.2 ∈ ms.map (fun e => e.1.2) := List.mem_map.mpr ⟨e, he, rfl⟩
            have a1 := geM _ m1
            have a2 := lem _ m1
            have a3 := geN _ m2
            have a4 := len _ m2
            rw [← ee]
            exact ⟨⟨a2, by omega⟩, a4, by omega⟩
end

theorem defAt_mk {K : PySem.W.Frag} {mg : Str → Option Value} {h : Heap} {x : Str} {st : Stmt} {ps : List Str} {f : Addr} {od an : Option Addr} {sl : Array (Option Value)} {oc kV dc pm cd ct : Value} (X : K.In h) (G : h.Ns mainGlobals mg) (a : PySem.W.nsIn K mainGlobals x = some (some (.ref f))) (l : K.lookup f = some ⟨oc, od, .func (PySem.W.fnOf x x (defArgs st) (defBody st) (defScope st) .none kV dc pm an cd ct), sl⟩) (c : PySem.W.codeIn K cd x = true) (k : PySem.W.keepIn K (.ref f) = true)
    (hb : ∀ (kV doc pm : Value) (an : Option Addr) (cdv ct : Value) (us : List Value), us.length = ps.length → bindArgs (PySem.W.fnOf x x (defArgs st) (defBody st) (defScope st) .none kV doc pm an cdv ct) ⟨us, []⟩ = pure (ps.zip us)) : DefAt K mg x st ps := by
  have F := fun_mk (st := st) l c k
  exact ⟨f, _, F, PySem.W.mg_of X G a, F.binds hb⟩
theorem metAt_mk {K : PySem.W.Frag} {C : Addr} {m qual : Str} {st : Stmt} {ps : List Str} {f : Addr} {od an : Option Addr} {sl : Array (Option Value)} {oc kV dc pm cd ct : Value} (a : PySem.W.findIn K (.ref C) m = some (some (.ref f))) (t : PySem.W.typeIn K (.ref f) = some (.type "function")) (l : K.lookup f = some ⟨oc, od, .func (PySem.W.fnOf m qual (defArgs st) (defBody st) (defScope st) .none kV dc pm an cd ct), sl⟩) (c : PySem.W.codeIn K cd qual = true) (k : PySem.W.keepIn K (.ref f) = true)
    (hb : ∀ (kV doc pm : Value) (an : Option Addr) (cdv ct : Value) (us : List Value), us.length = ps.length → bindArgs (PySem.W.fnOf m qual (defArgs st) (defBody st) (defScope st) .none kV doc pm an cdv ct) ⟨us, []⟩ = pure (ps.zip us)) : MetAt K C m qual st ps := by
  have F := fun_mk (st := st) l c k
  exact ⟨f, _, a, t, F, F.binds hb⟩
theorem metAtD_mk {K : PySem.W.Frag} {C : Addr} {m qual : Str} {st : Stmt} {ps : List Str} {f T : Addr} {its : Array Value} {tn : Nat} {dvs : List V} {od an : Option Addr} {sl : Array (Option Value)} {oc kV dc pm cd ct : Value} (n : Nat) (a : PySem.W.findIn K (.ref C) m = some (some (.ref f))) (t : PySem.W.typeIn K (.ref f) = some (.type "function")) (l : K.lookup f = some ⟨oc, od, .func (PySem.W.fnOf m qual (defArgs st) (defBody st) (defScope st) (.ref T) kV dc pm an cd ct), sl⟩) (c : PySem.W.codeIn K cd qual = true) (k : PySem.W.keepIn K (.ref f) = true)
    (lT : K.lookup T = some { cls := .type "tuple", data := .seq its tn }) (rv : Vals dvs its.toList) (hd : dvs ≠ []) (hn : n + (dvs.length - 0) = ps.length)
    (hb : ∀ (T : Addr) (kV doc pm : Value) (an : Option Addr) (cdv ct : Value) (us its : List Value), us.length = n → its.length = dvs.length → ∃ k, bindArgs (PySem.W.fnOf m qual (defArgs st) (defBody st) (defScope st) (.ref T) kV doc pm an cdv ct) ⟨us, []⟩ = seqItems? (.ref T) >>= k ∧ k (some its.toArray) = pure (ps.zip (us ++ its.drop 0))) : MetAtD K C m qual st ps dvs := by
  have F : FunD K m qual (defArgs st) (defBody st) (defScope st) dvs [] f _ := ⟨⟨oc, od, .ref T, kV, dc, pm, an, cd, ct, sl, rfl, l, c, .inr ⟨hd, T, _, its.toList, tn, rfl, lT, rfl, rv⟩, .inl rfl⟩, k⟩
  obtain ⟨ds, v, b⟩ := F.binds1 n 0 hd hn hb
  exact ⟨f, _, ds, a, t, F, v, b⟩
theorem all_mk {P : Program} {w : World} {K : PySem.W.Frag} {h : Heap} {mg : Str → Option Value} {fa : Addr} {f0 : Addr} {od0 an0 : Option Addr} {sl0 : Array (Option Value)} {oc0 kV0 dc0 pm0 cd0 ct0 : Value} {f1 : Addr} {od1 an1 : Option Addr} {sl1 : Array (Option Value)} {oc1 kV1 dc1 pm1 cd1 ct1 : Value} {f2 : Addr} {od2 an2 : Option Addr} {sl2 : Array (Option Value)} {oc2 kV2 dc2 pm2 cd2 ct2 : Value} {f3 : Addr} {od3 an3 : Option Addr} {sl3 : Array (Option Value)} {oc3 kV3 dc3 pm3 cd3 ct3 : Value} {f4 : Addr} {od4 an4 : Option Addr} {sl4 : Array (Option Value)} {oc4 kV4 dc4 pm4 cd4 ct4 : Value} {f5 : Addr} {od5 an5 : Option Addr} {sl5 : Array (Option Value)} {oc5 kV5 dc5 pm5 cd5 ct5 : Value} {f6 : Addr} {od6 an6 : Option Addr} {sl6 : Array (Option Value)} {oc6 kV6 dc6 pm6 cd6 ct6 : Value} {f7 : Addr} {od7 an7 : Option Addr} {sl7 : Array (Option Value)} {oc7 kV7 dc7 pm7 cd7 ct7 : Value} {f8 : Addr} {od8 an8 : Option Addr} {sl8 : Array (Option Value)} {oc8 kV8 dc8 pm8 cd8 ct8 : Value} {f9 : Addr} {od9 an9 : Option Addr} {sl9 : Array (Option Value)} {oc9 kV9 dc9 pm9 cd9 ct9 : Value} {f10 : Addr} {od10 an10 : Option Addr} {sl10 : Array (Option Value)} {oc10 kV10 dc10 pm10 cd10 ct10 : Value} {f11 : Addr} {od11 an11 : Option Addr} {sl11 : Array (Option Value)} {oc11 kV11 dc11 pm11 cd11 ct11 : Value} {f12 : Addr} {od12 an12 : Option Addr} {sl12 : Array (Option Value)} {oc12 kV12 dc12 pm12 cd12 ct12 : Value} {f13 : Addr} {od13 an13 : Option Addr} {sl13 : Array (Option Value)} {oc13 kV13 dc13 pm13 cd13 ct13 : Value} {f14 : Addr} {od14 an14 : Option Addr} {sl14 : Array (Option Value)} {oc14 kV14 dc14 pm14 cd14 ct14 : Value} {f15 : Addr} {od15 an15 : Option Addr} {sl15 : Array (Option Value)} {oc15 kV15 dc15 pm15 cd15 ct15 : Value} {f16 : Addr} {od16 an16 : Option Addr} {sl16 : Array (Option Value)} {oc16 kV16 dc16 pm16 cd16 ct16 : Value} {f17 : Addr} {od17 an17 : Option Addr} {sl17 : Array (Option Value)} {oc17 kV17 dc17 pm17 cd17 ct17 : Value} {f18 : Addr} {od18 an18 : Option Addr} {sl18 : Array (Option Value)} {oc18 kV18 dc18 pm18 cd18 ct18 : Value} {f19 : Addr} {od19 an19 : Option Addr} {sl19 : Array (Option Value)} {oc19 kV19 dc19 pm19 cd19 ct19 : Value} {f20 : Addr} {od20 an20 : Option Addr} {sl20 : Array (Option Value)} {oc20 kV20 dc20 pm20 cd20 ct20 : Value} {f21 : Addr} {od21 an21 : Option Addr} {sl21 : Array (Option Value)} {oc21 kV21 dc21 pm21 cd21 ct21 : Value} {f22 : Addr} {od22 an22 : Option Addr} {sl22 : Array (Option Value)} {oc22 kV22 dc22 pm22 cd22 ct22 : Value} {f23 : Addr} {od23 an23 : Option Addr} {sl23 : Array (Option Value)} {oc23 kV23 dc23 pm23 cd23 ct23 : Value} {f24 : Addr} {od24 an24 : Option Addr} {sl24 : Array (Option Value)} {oc24 kV24 dc24 pm24 cd24 ct24 : Value} {f25 : Addr} {od25 an25 : Option Addr} {sl25 : Array (Option Value)} {oc25 kV25 dc25 pm25 cd25 ct25 : Value} {f26 : Addr} {od26 an26 : Option Addr} {sl26 : Array (Option Value)} {oc26 kV26 dc26 pm26 cd26 ct26 : Value} {f27 : Addr} {od27 an27 : Option Addr} {sl27 : Array (Option Value)} {oc27 kV27 dc27 pm27 cd27 ct27 : Value} {f28 : Addr} {od28 an28 : Option Addr} {sl28 : Array (Option Value)} {oc28 kV28 dc28 pm28 cd28 ct28 : Value} {f29 : Addr} {od29 an29 : Option Addr} {sl29 : Array (Option Value)} {oc29 kV29 dc29 pm29 cd29 ct29 : Value} {f30 : Addr} {od30 an30 : Option Addr} {sl30 : Array (Option Value)} {oc30 kV30 dc30 pm30 cd30 ct30 : Value} {f31 : Addr} {od31 an31 : Option Addr} {sl31 : Array (Option Value)} {oc31 kV31 dc31 pm31 cd31 ct31 : Value} {f32 : Addr} {od32 an32 : Option Addr} {sl32 : Array (Option Value)} {oc32 kV32 dc32 pm32 cd32 ct32 : Value} {f33 : Addr} {od33 an33 : Option Addr} {sl33 : Array (Option Value)} {oc33 kV33 dc33 pm33 cd33 ct33 : Value} {t_FAR : Tok} {t_MOST_STATES : Tok} {t_FEWEST_COLOURS : Tok} {t_MOST_COLOURS : Tok} {t_MOST_SQUARES : Tok} {t_LONGEST_SIDE : Tok} {t_SIGNS : Tok} {hA hB0 hB1 hB2 hB3 : Addr} {hn hn0 hn1 hn2 hn3 : Nat} {ht1 ht2 ht3 ht4 ht5 ht6 ht7 ht8 : Tok} {t_MOST_KEPT : Tok} {t_RIGHT : Tok} {t_LEFT : Tok} {C_Stroll : Addr} {f_Stroll_init : Addr} {od_Stroll_init an_Stroll_init : Option Addr} {sl_Stroll_init : Array (Option Value)} {oc_Stroll_init kV_Stroll_init dc_Stroll_init pm_Stroll_init cd_Stroll_init ct_Stroll_init : Value} {dT_Stroll_init : Addr} {dn_Stroll_init : Nat} {hBL hBL0 : Addr} {nBL nBL0 : Nat} {tBL : Tok} {f_Stroll_colour_of : Addr} {od_Stroll_colour_of an_Stroll_colour_of : Option Addr} {sl_Stroll_colour_of : Array (Option Value)} {oc_Stroll_colour_of kV_Stroll_colour_of dc_Stroll_colour_of pm_Stroll_colour_of cd_Stroll_colour_of ct_Stroll_colour_of : Value} {f_Stroll_paint : Addr} {od_Stroll_paint an_Stroll_paint : Option Addr} {sl_Stroll_paint : Array (Option Value)} {oc_Stroll_paint kV_Stroll_paint dc_Stroll_paint pm_Stroll_paint cd_Stroll_paint ct_Stroll_paint : Value} {f_Stroll_go : Addr} {od_Stroll_go an_Stroll_go : Option Addr} {sl_Stroll_go : Array (Option Value)} {oc_Stroll_go kV_Stroll_go dc_Stroll_go pm_Stroll_go cd_Stroll_go ct_Stroll_go : Value} {C_Record : Addr} {f_Record_length : Addr} {od_Record_length an_Record_length : Option Addr} {sl_Record_length : Array (Option Value)} {oc_Record_length kV_Record_length dc_Record_length pm_Record_length cd_Record_length ct_Record_length : Value} {f_Record_walker_behind : Addr} {od_Record_walker_behind an_Record_walker_behind : Option Addr} {sl_Record_walker_behind : Array (Option Value)} {oc_Record_walker_behind kV_Record_walker_behind dc_Record_walker_behind pm_Record_walker_behind cd_Record_walker_behind ct_Record_walker_behind : Value} {f_Record_colour_behind : Addr} {od_Record_colour_behind an_Record_colour_behind : Option Addr} {sl_Record_colour_behind : Array (Option Value)} {oc_Record_colour_behind kV_Record_colour_behind dc_Record_colour_behind pm_Record_colour_behind cd_Record_colour_behind ct_Record_colour_behind : Value} {f_Record_init : Addr} {od_Record_init an_Record_init : Option Addr} {sl_Record_init : Array (Option Value)} {oc_Record_init kV_Record_init dc_Record_init pm_Record_init cd_Record_init ct_Record_init : Value} {f_Record_lasts : Addr} {od_Record_lasts an_Record_lasts : Option Addr} {sl_Record_lasts : Array (Option Value)} {oc_Record_lasts kV_Record_lasts dc_Record_lasts pm_Record_lasts cd_Record_lasts ct_Record_lasts : Value} {f_Record_floor_behind : Addr} {od_Record_floor_behind an_Record_floor_behind : Option Addr} {sl_Record_floor_behind : Array (Option Value)} {oc_Record_floor_behind kV_Record_floor_behind dc_Record_floor_behind pm_Record_floor_behind cd_Record_floor_behind ct_Record_floor_behind : Value} {C_Trail : Addr} {f_Trail_length : Addr} {od_Trail_length an_Trail_length : Option Addr} {sl_Trail_length : Array (Option Value)} {oc_Trail_length kV_Trail_length dc_Trail_length pm_Trail_length cd_Trail_length ct_Trail_length : Value} {f_Trail_walker_at : Addr} {od_Trail_walker_at an_Trail_walker_at : Option Addr} {sl_Trail_walker_at : Array (Option Value)} {oc_Trail_walker_at kV_Trail_walker_at dc_Trail_walker_at pm_Trail_walker_at cd_Trail_walker_at ct_Trail_walker_at : Value} {f_Trail_floor_at : Addr} {od_Trail_floor_at an_Trail_floor_at : Option Addr} {sl_Trail_floor_at : Array (Option Value)} {oc_Trail_floor_at kV_Trail_floor_at dc_Trail_floor_at pm_Trail_floor_at cd_Trail_floor_at ct_Trail_floor_at : Value} {f_Trail_init : Addr} {od_Trail_init an_Trail_init : Option Addr} {sl_Trail_init : Array (Option Value)} {oc_Trail_init kV_Trail_init dc_Trail_init pm_Trail_init cd_Trail_init ct_Trail_init : Value} {f_Trail_go_on : Addr} {od_Trail_go_on an_Trail_go_on : Option Addr} {sl_Trail_go_on : Array (Option Value)} {oc_Trail_go_on kV_Trail_go_on dc_Trail_go_on pm_Trail_go_on cd_Trail_go_on ct_Trail_go_on : Value} (X : K.In h) (G : h.Ns mainGlobals mg) (hfa : mg "law" = some (.ref fa))
    (a0 : PySem.W.nsIn K mainGlobals "_wall" = some (some (.ref f0)))
    (l0 : K.lookup f0 = some ⟨oc0, od0, .func (PySem.W.fnOf "_wall" "_wall" (defArgs s_u_wall) (defBody s_u_wall) (defScope s_u_wall) .none kV0 dc0 pm0 an0 cd0 ct0), sl0⟩)
    (c0 : PySem.W.codeIn K cd0 "_wall" = true)
    (k0 : PySem.W.keepIn K (.ref f0) = true)
    (a1 : PySem.W.nsIn K mainGlobals "is_whole" = some (some (.ref f1)))
    (l1 : K.lookup f1 = some ⟨oc1, od1, .func (PySem.W.fnOf "is_whole" "is_whole" (defArgs s_is_whole) (defBody s_is_whole) (defScope s_is_whole) .none kV1 dc1 pm1 an1 cd1 ct1), sl1⟩)
    (c1 : PySem.W.codeIn K cd1 "is_whole" = true)
    (k1 : PySem.W.keepIn K (.ref f1) = true)
    (a2 : PySem.W.nsIn K mainGlobals "is_place" = some (some (.ref f2)))
    (l2 : K.lookup f2 = some ⟨oc2, od2, .func (PySem.W.fnOf "is_place" "is_place" (defArgs s_is_place) (defBody s_is_place) (defScope s_is_place) .none kV2 dc2 pm2 an2 cd2 ct2), sl2⟩)
    (c2 : PySem.W.codeIn K cd2 "is_place" = true)
    (k2 : PySem.W.keepIn K (.ref f2) = true)
    (a3 : PySem.W.nsIn K mainGlobals "check_number" = some (some (.ref f3)))
    (l3 : K.lookup f3 = some ⟨oc3, od3, .func (PySem.W.fnOf "check_number" "check_number" (defArgs s_check_number) (defBody s_check_number) (defScope s_check_number) .none kV3 dc3 pm3 an3 cd3 ct3), sl3⟩)
    (c3 : PySem.W.codeIn K cd3 "check_number" = true)
    (k3 : PySem.W.keepIn K (.ref f3) = true)
    (a4 : PySem.W.nsIn K mainGlobals "check_table" = some (some (.ref f4)))
    (l4 : K.lookup f4 = some ⟨oc4, od4, .func (PySem.W.fnOf "check_table" "check_table" (defArgs s_check_table) (defBody s_check_table) (defScope s_check_table) .none kV4 dc4 pm4 an4 cd4 ct4), sl4⟩)
    (c4 : PySem.W.codeIn K cd4 "check_table" = true)
    (k4 : PySem.W.keepIn K (.ref f4) = true)
    (a5 : PySem.W.nsIn K mainGlobals "is_table" = some (some (.ref f5)))
    (l5 : K.lookup f5 = some ⟨oc5, od5, .func (PySem.W.fnOf "is_table" "is_table" (defArgs s_is_table) (defBody s_is_table) (defScope s_is_table) .none kV5 dc5 pm5 an5 cd5 ct5), sl5⟩)
    (c5 : PySem.W.codeIn K cd5 "is_table" = true)
    (k5 : PySem.W.keepIn K (.ref f5) = true)
    (a6 : PySem.W.nsIn K mainGlobals "_is_entry" = some (some (.ref f6)))
    (l6 : K.lookup f6 = some ⟨oc6, od6, .func (PySem.W.fnOf "_is_entry" "_is_entry" (defArgs s_u_is_entry) (defBody s_u_is_entry) (defScope s_u_is_entry) .none kV6 dc6 pm6 an6 cd6 ct6), sl6⟩)
    (c6 : PySem.W.codeIn K cd6 "_is_entry" = true)
    (k6 : PySem.W.keepIn K (.ref f6) = true)
    (a7 : PySem.W.nsIn K mainGlobals "box" = some (some (.ref f7)))
    (l7 : K.lookup f7 = some ⟨oc7, od7, .func (PySem.W.fnOf "box" "box" (defArgs s_box) (defBody s_box) (defScope s_box) .none kV7 dc7 pm7 an7 cd7 ct7), sl7⟩)
    (c7 : PySem.W.codeIn K cd7 "box" = true)
    (k7 : PySem.W.keepIn K (.ref f7) = true)
    (a8 : PySem.W.nsIn K mainGlobals "write_floor" = some (some (.ref f8)))
    (l8 : K.lookup f8 = some ⟨oc8, od8, .func (PySem.W.fnOf "write_floor" "write_floor" (defArgs s_write_floor) (defBody s_write_floor) (defScope s_write_floor) .none kV8 dc8 pm8 an8 cd8 ct8), sl8⟩)
    (c8 : PySem.W.codeIn K cd8 "write_floor" = true)
    (k8 : PySem.W.keepIn K (.ref f8) = true)
    (a9 : PySem.W.nsIn K mainGlobals "check_floor" = some (some (.ref f9)))
    (l9 : K.lookup f9 = some ⟨oc9, od9, .func (PySem.W.fnOf "check_floor" "check_floor" (defArgs s_check_floor) (defBody s_check_floor) (defScope s_check_floor) .none kV9 dc9 pm9 an9 cd9 ct9), sl9⟩)
    (c9 : PySem.W.codeIn K cd9 "check_floor" = true)
    (k9 : PySem.W.keepIn K (.ref f9) = true)
    (a10 : PySem.W.nsIn K mainGlobals "painted_places" = some (some (.ref f10)))
    (l10 : K.lookup f10 = some ⟨oc10, od10, .func (PySem.W.fnOf "painted_places" "painted_places" (defArgs s_painted_places) (defBody s_painted_places) (defScope s_painted_places) .none kV10 dc10 pm10 an10 cd10 ct10), sl10⟩)
    (c10 : PySem.W.codeIn K cd10 "painted_places" = true)
    (k10 : PySem.W.keepIn K (.ref f10) = true)
    (a11 : PySem.W.nsIn K mainGlobals "floor_of" = some (some (.ref f11)))
    (l11 : K.lookup f11 = some ⟨oc11, od11, .func (PySem.W.fnOf "floor_of" "floor_of" (defArgs s_floor_of) (defBody s_floor_of) (defScope s_floor_of) .none kV11 dc11 pm11 an11 cd11 ct11), sl11⟩)
    (c11 : PySem.W.codeIn K cd11 "floor_of" = true)
    (k11 : PySem.W.keepIn K (.ref f11) = true)
    (a12 : PySem.W.nsIn K mainGlobals "box_of" = some (some (.ref f12)))
    (l12 : K.lookup f12 = some ⟨oc12, od12, .func (PySem.W.fnOf "box_of" "box_of" (defArgs s_box_of) (defBody s_box_of) (defScope s_box_of) .none kV12 dc12 pm12 an12 cd12 ct12), sl12⟩)
    (c12 : PySem.W.codeIn K cd12 "box_of" = true)
    (k12 : PySem.W.keepIn K (.ref f12) = true)
    (a13 : PySem.W.nsIn K mainGlobals "paint_square" = some (some (.ref f13)))
    (l13 : K.lookup f13 = some ⟨oc13, od13, .func (PySem.W.fnOf "paint_square" "paint_square" (defArgs s_paint_square) (defBody s_paint_square) (defScope s_paint_square) .none kV13 dc13 pm13 an13 cd13 ct13), sl13⟩)
    (c13 : PySem.W.codeIn K cd13 "paint_square" = true)
    (k13 : PySem.W.keepIn K (.ref f13) = true)
    (a14 : PySem.W.nsIn K mainGlobals "_is_square" = some (some (.ref f14)))
    (l14 : K.lookup f14 = some ⟨oc14, od14, .func (PySem.W.fnOf "_is_square" "_is_square" (defArgs s_u_is_square) (defBody s_u_is_square) (defScope s_u_is_square) .none kV14 dc14 pm14 an14 cd14 ct14), sl14⟩)
    (c14 : PySem.W.codeIn K cd14 "_is_square" = true)
    (k14 : PySem.W.keepIn K (.ref f14) = true)
    (a15 : PySem.W.nsIn K mainGlobals "_row_text" = some (some (.ref f15)))
    (l15 : K.lookup f15 = some ⟨oc15, od15, .func (PySem.W.fnOf "_row_text" "_row_text" (defArgs s_u_row_text) (defBody s_u_row_text) (defScope s_u_row_text) .none kV15 dc15 pm15 an15 cd15 ct15), sl15⟩)
    (c15 : PySem.W.codeIn K cd15 "_row_text" = true)
    (k15 : PySem.W.keepIn K (.ref f15) = true)
    (a16 : PySem.W.nsIn K mainGlobals "check_stand" = some (some (.ref f16)))
    (l16 : K.lookup f16 = some ⟨oc16, od16, .func (PySem.W.fnOf "check_stand" "check_stand" (defArgs s_check_stand) (defBody s_check_stand) (defScope s_check_stand) .none kV16 dc16 pm16 an16 cd16 ct16), sl16⟩)
    (c16 : PySem.W.codeIn K cd16 "check_stand" = true)
    (k16 : PySem.W.keepIn K (.ref f16) = true)
    (a17 : PySem.W.nsIn K mainGlobals "check_walker" = some (some (.ref f17)))
    (l17 : K.lookup f17 = some ⟨oc17, od17, .func (PySem.W.fnOf "check_walker" "check_walker" (defArgs s_check_walker) (defBody s_check_walker) (defScope s_check_walker) .none kV17 dc17 pm17 an17 cd17 ct17), sl17⟩)
    (c17 : PySem.W.codeIn K cd17 "check_walker" = true)
    (k17 : PySem.W.keepIn K (.ref f17) = true)
    (a18 : PySem.W.nsIn K mainGlobals "is_walker" = some (some (.ref f18)))
    (l18 : K.lookup f18 = some ⟨oc18, od18, .func (PySem.W.fnOf "is_walker" "is_walker" (defArgs s_is_walker) (defBody s_is_walker) (defScope s_is_walker) .none kV18 dc18 pm18 an18 cd18 ct18), sl18⟩)
    (c18 : PySem.W.codeIn K cd18 "is_walker" = true)
    (k18 : PySem.W.keepIn K (.ref f18) = true)
    (a19 : PySem.W.nsIn K mainGlobals "_walker_behind" = some (some (.ref f19)))
    (l19 : K.lookup f19 = some ⟨oc19, od19, .func (PySem.W.fnOf "_walker_behind" "_walker_behind" (defArgs s_u_walker_behind) (defBody s_u_walker_behind) (defScope s_u_walker_behind) .none kV19 dc19 pm19 an19 cd19 ct19), sl19⟩)
    (c19 : PySem.W.codeIn K cd19 "_walker_behind" = true)
    (k19 : PySem.W.keepIn K (.ref f19) = true)
    (a20 : PySem.W.nsIn K mainGlobals "write_walker" = some (some (.ref f20)))
    (l20 : K.lookup f20 = some ⟨oc20, od20, .func (PySem.W.fnOf "write_walker" "write_walker" (defArgs s_write_walker) (defBody s_write_walker) (defScope s_write_walker) .none kV20 dc20 pm20 an20 cd20 ct20), sl20⟩)
    (c20 : PySem.W.codeIn K cd20 "write_walker" = true)
    (k20 : PySem.W.keepIn K (.ref f20) = true)
    (a21 : PySem.W.nsIn K mainGlobals "_trail_text" = some (some (.ref f21)))
    (l21 : K.lookup f21 = some ⟨oc21, od21, .func (PySem.W.fnOf "_trail_text" "_trail_text" (defArgs s_u_trail_text) (defBody s_u_trail_text) (defScope s_u_trail_text) .none kV21 dc21 pm21 an21 cd21 ct21), sl21⟩)
    (c21 : PySem.W.codeIn K cd21 "_trail_text" = true)
    (k21 : PySem.W.keepIn K (.ref f21) = true)
    (a22 : PySem.W.nsIn K mainGlobals "never_bounded" = some (some (.ref f22)))
    (l22 : K.lookup f22 = some ⟨oc22, od22, .func (PySem.W.fnOf "never_bounded" "never_bounded" (defArgs s_never_bounded) (defBody s_never_bounded) (defScope s_never_bounded) .none kV22 dc22 pm22 an22 cd22 ct22), sl22⟩)
    (c22 : PySem.W.codeIn K cd22 "never_bounded" = true)
    (k22 : PySem.W.keepIn K (.ref f22) = true)
    (a23 : PySem.W.nsIn K mainGlobals "_check_turning" = some (some (.ref f23)))
    (l23 : K.lookup f23 = some ⟨oc23, od23, .func (PySem.W.fnOf "_check_turning" "_check_turning" (defArgs s_u_check_turning) (defBody s_u_check_turning) (defScope s_u_check_turning) .none kV23 dc23 pm23 an23 cd23 ct23), sl23⟩)
    (c23 : PySem.W.codeIn K cd23 "_check_turning" = true)
    (k23 : PySem.W.keepIn K (.ref f23) = true)
    (a24 : PySem.W.nsIn K mainGlobals "_rounds" = some (some (.ref f24)))
    (l24 : K.lookup f24 = some ⟨oc24, od24, .func (PySem.W.fnOf "_rounds" "_rounds" (defArgs s_u_rounds) (defBody s_u_rounds) (defScope s_u_rounds) .none kV24 dc24 pm24 an24 cd24 ct24), sl24⟩)
    (c24 : PySem.W.codeIn K cd24 "_rounds" = true)
    (k24 : PySem.W.keepIn K (.ref f24) = true)
    (a25 : PySem.W.nsIn K mainGlobals "_turns_both_ways" = some (some (.ref f25)))
    (l25 : K.lookup f25 = some ⟨oc25, od25, .func (PySem.W.fnOf "_turns_both_ways" "_turns_both_ways" (defArgs s_u_turns_both_ways) (defBody s_u_turns_both_ways) (defScope s_u_turns_both_ways) .none kV25 dc25 pm25 an25 cd25 ct25), sl25⟩)
    (c25 : PySem.W.codeIn K cd25 "_turns_both_ways" = true)
    (k25 : PySem.W.keepIn K (.ref f25) = true)
    (a26 : PySem.W.nsIn K mainGlobals "_law_taken" = some (some (.ref f26)))
    (l26 : K.lookup f26 = some ⟨oc26, od26, .func (PySem.W.fnOf "_law_taken" "_law_taken" (defArgs s_law_taken) (defBody s_law_taken) (defScope s_law_taken) .none kV26 dc26 pm26 an26 cd26 ct26), sl26⟩)
    (c26 : PySem.W.codeIn K cd26 "_law_taken" = true)
    (k26 : PySem.W.keepIn K (.ref f26) = true)
    (a27 : PySem.W.nsIn K mainGlobals "_law_pick" = some (some (.ref f27)))
    (l27 : K.lookup f27 = some ⟨oc27, od27, .func (PySem.W.fnOf "_law_pick" "_law_pick" (defArgs s_law_pick) (defBody s_law_pick) (defScope s_law_pick) .none kV27 dc27 pm27 an27 cd27 ct27), sl27⟩)
    (c27 : PySem.W.codeIn K cd27 "_law_pick" = true)
    (k27 : PySem.W.keepIn K (.ref f27) = true)
    (a28 : PySem.W.nsIn K mainGlobals "_law_turning_table" = some (some (.ref f28)))
    (l28 : K.lookup f28 = some ⟨oc28, od28, .func (PySem.W.fnOf "_law_turning_table" "_law_turning_table" (defArgs s_law_turning_table) (defBody s_law_turning_table) (defScope s_law_turning_table) .none kV28 dc28 pm28 an28 cd28 ct28), sl28⟩)
    (c28 : PySem.W.codeIn K cd28 "_law_turning_table" = true)
    (k28 : PySem.W.keepIn K (.ref f28) = true)
    (a29 : PySem.W.nsIn K mainGlobals "_law_signed" = some (some (.ref f29)))
    (l29 : K.lookup f29 = some ⟨oc29, od29, .func (PySem.W.fnOf "_law_signed" "_law_signed" (defArgs s_law_signed) (defBody s_law_signed) (defScope s_law_signed) .none kV29 dc29 pm29 an29 cd29 ct29), sl29⟩)
    (c29 : PySem.W.codeIn K cd29 "_law_signed" = true)
    (k29 : PySem.W.keepIn K (.ref f29) = true)
    (a30 : PySem.W.nsIn K mainGlobals "_law_some_floor" = some (some (.ref f30)))
    (l30 : K.lookup f30 = some ⟨oc30, od30, .func (PySem.W.fnOf "_law_some_floor" "_law_some_floor" (defArgs s_law_some_floor) (defBody s_law_some_floor) (defScope s_law_some_floor) .none kV30 dc30 pm30 an30 cd30 ct30), sl30⟩)
    (c30 : PySem.W.codeIn K cd30 "_law_some_floor" = true)
    (k30 : PySem.W.keepIn K (.ref f30) = true)
    (a31 : PySem.W.nsIn K mainGlobals "_law_walker" = some (some (.ref f31)))
    (l31 : K.lookup f31 = some ⟨oc31, od31, .func (PySem.W.fnOf "_law_walker" "_law_walker" (defArgs s_law_walker) (defBody s_law_walker) (defScope s_law_walker) .none kV31 dc31 pm31 an31 cd31 ct31), sl31⟩)
    (c31 : PySem.W.codeIn K cd31 "_law_walker" = true)
    (k31 : PySem.W.keepIn K (.ref f31) = true)
    (a32 : PySem.W.nsIn K mainGlobals "_law_power" = some (some (.ref f32)))
    (l32 : K.lookup f32 = some ⟨oc32, od32, .func (PySem.W.fnOf "_law_power" "_law_power" (defArgs s_law_power) (defBody s_law_power) (defScope s_law_power) .none kV32 dc32 pm32 an32 cd32 ct32), sl32⟩)
    (c32 : PySem.W.codeIn K cd32 "_law_power" = true)
    (k32 : PySem.W.keepIn K (.ref f32) = true)
    (a33 : PySem.W.nsIn K mainGlobals "law" = some (some (.ref f33)))
    (l33 : K.lookup f33 = some ⟨oc33, od33, .func (PySem.W.fnOf "law" "law" (defArgs s_law) (defBody s_law) (defScope s_law) .none kV33 dc33 pm33 an33 cd33 ct33), sl33⟩)
    (c33 : PySem.W.codeIn K cd33 "law" = true)
    (k33 : PySem.W.keepIn K (.ref f33) = true)
    (z_ValueError : PySem.W.nsIn K mainGlobals "ValueError" = some none)
    (z_all : PySem.W.nsIn K mainGlobals "all" = some none)
    (z_any : PySem.W.nsIn K mainGlobals "any" = some none)
    (z_bool : PySem.W.nsIn K mainGlobals "bool" = some none)
    (z_enumerate : PySem.W.nsIn K mainGlobals "enumerate" = some none)
    (z_int : PySem.W.nsIn K mainGlobals "int" = some none)
    (z_isinstance : PySem.W.nsIn K mainGlobals "isinstance" = some none)
    (z_len : PySem.W.nsIn K mainGlobals "len" = some none)
    (z_list : PySem.W.nsIn K mainGlobals "list" = some none)
    (z_max : PySem.W.nsIn K mainGlobals "max" = some none)
    (z_min : PySem.W.nsIn K mainGlobals "min" = some none)
    (z_range : PySem.W.nsIn K mainGlobals "range" = some none)
    (z_reversed : PySem.W.nsIn K mainGlobals "reversed" = some none)
    (z_set : PySem.W.nsIn K mainGlobals "set" = some none)
    (z_sorted : PySem.W.nsIn K mainGlobals "sorted" = some none)
    (z_str : PySem.W.nsIn K mainGlobals "str" = some none)
    (z_tuple : PySem.W.nsIn K mainGlobals "tuple" = some none)
    (g_FAR : PySem.W.nsIn K mainGlobals "FAR" = some (some (.int 1000000000000000000000000000000000000000000000000000000000000 t_FAR)))
    (g_MOST_STATES : PySem.W.nsIn K mainGlobals "MOST_STATES" = some (some (.int 10 t_MOST_STATES)))
    (g_FEWEST_COLOURS : PySem.W.nsIn K mainGlobals "FEWEST_COLOURS" = some (some (.int 2 t_FEWEST_COLOURS)))
    (g_MOST_COLOURS : PySem.W.nsIn K mainGlobals "MOST_COLOURS" = some (some (.int 6 t_MOST_COLOURS)))
    (g_MOST_SQUARES : PySem.W.nsIn K mainGlobals "MOST_SQUARES" = some (some (.int 4000 t_MOST_SQUARES)))
    (g_LONGEST_SIDE : PySem.W.nsIn K mainGlobals "LONGEST_SIDE" = some (some (.int 9999 t_LONGEST_SIDE)))
    (g_SIGNS : PySem.W.nsIn K mainGlobals "SIGNS" = some (some (.str ".abcde" t_SIGNS)))
    (g_AHEAD : PySem.W.nsIn K mainGlobals "AHEAD" = some (some (.ref hA)))
    (lA : K.lookup hA = some { cls := .type "tuple", data := .seq #[.ref hB0, .ref hB1, .ref hB2, .ref hB3] hn })
    (lB0 : K.lookup hB0 = some { cls := .type "tuple", data := .seq #[.int 0 ht1, .int (-1) ht2] hn0 })
    (lB1 : K.lookup hB1 = some { cls := .type "tuple", data := .seq #[.int 1 ht3, .int 0 ht4] hn1 })
    (lB2 : K.lookup hB2 = some { cls := .type "tuple", data := .seq #[.int 0 ht5, .int 1 ht6] hn2 })
    (lB3 : K.lookup hB3 = some { cls := .type "tuple", data := .seq #[.int (-1) ht7, .int 0 ht8] hn3 })
    (g_MOST_KEPT : PySem.W.nsIn K mainGlobals "MOST_KEPT" = some (some (.int 20000 t_MOST_KEPT)))
    (g_RIGHT : PySem.W.nsIn K mainGlobals "RIGHT" = some (some (.int 1 t_RIGHT)))
    (g_LEFT : PySem.W.nsIn K mainGlobals "LEFT" = some (some (.int 3 t_LEFT)))
    (a_Stroll : PySem.W.nsIn K mainGlobals "Stroll" = some (some (.ref C_Stroll)))
    (pg_Stroll : PySem.W.plainGet K C_Stroll Str.empty = true)
    (hd_Stroll : PySem.W.hasDictIn K C_Stroll = true)
    (po_Stroll : PySem.W.plainOver K C_Stroll = true)
    (sa_Stroll : PySem.W.findIn K (.ref C_Stroll) "__setattr__" = some (some (.builtin "object.__setattr__")))
    (mk_Stroll : PySem.W.makesIn K C_Stroll = true)
    (kc_Stroll : PySem.W.keepIn K (.ref C_Stroll) = true)
    (n_Stroll_table : PySem.W.findIn K (.ref C_Stroll) "table" = some none)
    (n_Stroll_ground : PySem.W.findIn K (.ref C_Stroll) "ground" = some none)
    (n_Stroll_painted : PySem.W.findIn K (.ref C_Stroll) "painted" = some none)
    (n_Stroll_walker : PySem.W.findIn K (.ref C_Stroll) "walker" = some none)
    (iA_Stroll_init : PySem.W.findIn K (.ref C_Stroll) "__init__" = some (some (.ref f_Stroll_init)))
    (iT_Stroll_init : PySem.W.typeIn K (.ref f_Stroll_init) = some (.type "function"))
    (iL_Stroll_init : K.lookup f_Stroll_init = some ⟨oc_Stroll_init, od_Stroll_init, .func (PySem.W.fnOf "__init__" "Stroll.__init__" (defArgs s_Stroll_init) (defBody s_Stroll_init) (defScope s_Stroll_init) (.ref dT_Stroll_init) kV_Stroll_init dc_Stroll_init pm_Stroll_init an_Stroll_init cd_Stroll_init ct_Stroll_init), sl_Stroll_init⟩)
    (dL_Stroll_init : K.lookup dT_Stroll_init = some { cls := .type "tuple", data := .seq #[.ref hBL] dn_Stroll_init })
    (lBL : K.lookup hBL = some { cls := .type "tuple", data := .seq #[.ref hBL0] nBL })
    (lBL0 : K.lookup hBL0 = some { cls := .type "tuple", data := .seq #[.int 0 tBL] nBL0 })
    (iC_Stroll_init : PySem.W.codeIn K cd_Stroll_init "Stroll.__init__" = true)
    (iK_Stroll_init : PySem.W.keepIn K (.ref f_Stroll_init) = true)
    (iA_Stroll_colour_of : PySem.W.findIn K (.ref C_Stroll) "colour_of" = some (some (.ref f_Stroll_colour_of)))
    (iT_Stroll_colour_of : PySem.W.typeIn K (.ref f_Stroll_colour_of) = some (.type "function"))
    (iL_Stroll_colour_of : K.lookup f_Stroll_colour_of = some ⟨oc_Stroll_colour_of, od_Stroll_colour_of, .func (PySem.W.fnOf "colour_of" "Stroll.colour_of" (defArgs s_Stroll_colour_of) (defBody s_Stroll_colour_of) (defScope s_Stroll_colour_of) .none kV_Stroll_colour_of dc_Stroll_colour_of pm_Stroll_colour_of an_Stroll_colour_of cd_Stroll_colour_of ct_Stroll_colour_of), sl_Stroll_colour_of⟩)
    (iC_Stroll_colour_of : PySem.W.codeIn K cd_Stroll_colour_of "Stroll.colour_of" = true)
    (iK_Stroll_colour_of : PySem.W.keepIn K (.ref f_Stroll_colour_of) = true)
    (iA_Stroll_paint : PySem.W.findIn K (.ref C_Stroll) "paint" = some (some (.ref f_Stroll_paint)))
    (iT_Stroll_paint : PySem.W.typeIn K (.ref f_Stroll_paint) = some (.type "function"))
    (iL_Stroll_paint : K.lookup f_Stroll_paint = some ⟨oc_Stroll_paint, od_Stroll_paint, .func (PySem.W.fnOf "paint" "Stroll.paint" (defArgs s_Stroll_paint) (defBody s_Stroll_paint) (defScope s_Stroll_paint) .none kV_Stroll_paint dc_Stroll_paint pm_Stroll_paint an_Stroll_paint cd_Stroll_paint ct_Stroll_paint), sl_Stroll_paint⟩)
    (iC_Stroll_paint : PySem.W.codeIn K cd_Stroll_paint "Stroll.paint" = true)
    (iK_Stroll_paint : PySem.W.keepIn K (.ref f_Stroll_paint) = true)
    (iA_Stroll_go : PySem.W.findIn K (.ref C_Stroll) "go" = some (some (.ref f_Stroll_go)))
    (iT_Stroll_go : PySem.W.typeIn K (.ref f_Stroll_go) = some (.type "function"))
    (iL_Stroll_go : K.lookup f_Stroll_go = some ⟨oc_Stroll_go, od_Stroll_go, .func (PySem.W.fnOf "go" "Stroll.go" (defArgs s_Stroll_go) (defBody s_Stroll_go) (defScope s_Stroll_go) .none kV_Stroll_go dc_Stroll_go pm_Stroll_go an_Stroll_go cd_Stroll_go ct_Stroll_go), sl_Stroll_go⟩)
    (iC_Stroll_go : PySem.W.codeIn K cd_Stroll_go "Stroll.go" = true)
    (iK_Stroll_go : PySem.W.keepIn K (.ref f_Stroll_go) = true)
    (a_Record : PySem.W.nsIn K mainGlobals "Record" = some (some (.ref C_Record)))
    (pg_Record : PySem.W.plainGet K C_Record Str.empty = true)
    (hd_Record : PySem.W.hasDictIn K C_Record = true)
    (po_Record : PySem.W.plainOver K C_Record = true)
    (sa_Record : PySem.W.findIn K (.ref C_Record) "__setattr__" = some (some (.builtin "object.__setattr__")))
    (mk_Record : PySem.W.makesIn K C_Record = true)
    (kc_Record : PySem.W.keepIn K (.ref C_Record) = true)
    (n_Record_stroll : PySem.W.findIn K (.ref C_Record) "stroll" = some none)
    (n_Record_walkers : PySem.W.findIn K (.ref C_Record) "walkers" = some none)
    (n_Record_counts : PySem.W.findIn K (.ref C_Record) "counts" = some none)
    (n_Record_colours : PySem.W.findIn K (.ref C_Record) "colours" = some none)
    (iA_Record_length : PySem.W.findIn K (.ref C_Record) "length" = some (some (.ref f_Record_length)))
    (iT_Record_length : PySem.W.typeIn K (.ref f_Record_length) = some (.type "function"))
    (iL_Record_length : K.lookup f_Record_length = some ⟨oc_Record_length, od_Record_length, .func (PySem.W.fnOf "length" "Record.length" (defArgs s_Record_length) (defBody s_Record_length) (defScope s_Record_length) .none kV_Record_length dc_Record_length pm_Record_length an_Record_length cd_Record_length ct_Record_length), sl_Record_length⟩)
    (iC_Record_length : PySem.W.codeIn K cd_Record_length "Record.length" = true)
    (iK_Record_length : PySem.W.keepIn K (.ref f_Record_length) = true)
    (iA_Record_walker_behind : PySem.W.findIn K (.ref C_Record) "walker_behind" = some (some (.ref f_Record_walker_behind)))
    (iT_Record_walker_behind : PySem.W.typeIn K (.ref f_Record_walker_behind) = some (.type "function"))
    (iL_Record_walker_behind : K.lookup f_Record_walker_behind = some ⟨oc_Record_walker_behind, od_Record_walker_behind, .func (PySem.W.fnOf "walker_behind" "Record.walker_behind" (defArgs s_Record_walker_behind) (defBody s_Record_walker_behind) (defScope s_Record_walker_behind) .none kV_Record_walker_behind dc_Record_walker_behind pm_Record_walker_behind an_Record_walker_behind cd_Record_walker_behind ct_Record_walker_behind), sl_Record_walker_behind⟩)
    (iC_Record_walker_behind : PySem.W.codeIn K cd_Record_walker_behind "Record.walker_behind" = true)
    (iK_Record_walker_behind : PySem.W.keepIn K (.ref f_Record_walker_behind) = true)
    (iA_Record_colour_behind : PySem.W.findIn K (.ref C_Record) "colour_behind" = some (some (.ref f_Record_colour_behind)))
    (iT_Record_colour_behind : PySem.W.typeIn K (.ref f_Record_colour_behind) = some (.type "function"))
    (iL_Record_colour_behind : K.lookup f_Record_colour_behind = some ⟨oc_Record_colour_behind, od_Record_colour_behind, .func (PySem.W.fnOf "colour_behind" "Record.colour_behind" (defArgs s_Record_colour_behind) (defBody s_Record_colour_behind) (defScope s_Record_colour_behind) .none kV_Record_colour_behind dc_Record_colour_behind pm_Record_colour_behind an_Record_colour_behind cd_Record_colour_behind ct_Record_colour_behind), sl_Record_colour_behind⟩)
    (iC_Record_colour_behind : PySem.W.codeIn K cd_Record_colour_behind "Record.colour_behind" = true)
    (iK_Record_colour_behind : PySem.W.keepIn K (.ref f_Record_colour_behind) = true)
    (iA_Record_init : PySem.W.findIn K (.ref C_Record) "__init__" = some (some (.ref f_Record_init)))
    (iT_Record_init : PySem.W.typeIn K (.ref f_Record_init) = some (.type "function"))
    (iL_Record_init : K.lookup f_Record_init = some ⟨oc_Record_init, od_Record_init, .func (PySem.W.fnOf "__init__" "Record.__init__" (defArgs s_Record_init) (defBody s_Record_init) (defScope s_Record_init) .none kV_Record_init dc_Record_init pm_Record_init an_Record_init cd_Record_init ct_Record_init), sl_Record_init⟩)
    (iC_Record_init : PySem.W.codeIn K cd_Record_init "Record.__init__" = true)
    (iK_Record_init : PySem.W.keepIn K (.ref f_Record_init) = true)
    (iA_Record_lasts : PySem.W.findIn K (.ref C_Record) "lasts" = some (some (.ref f_Record_lasts)))
    (iT_Record_lasts : PySem.W.typeIn K (.ref f_Record_lasts) = some (.type "function"))
    (iL_Record_lasts : K.lookup f_Record_lasts = some ⟨oc_Record_lasts, od_Record_lasts, .func (PySem.W.fnOf "lasts" "Record.lasts" (defArgs s_Record_lasts) (defBody s_Record_lasts) (defScope s_Record_lasts) .none kV_Record_lasts dc_Record_lasts pm_Record_lasts an_Record_lasts cd_Record_lasts ct_Record_lasts), sl_Record_lasts⟩)
    (iC_Record_lasts : PySem.W.codeIn K cd_Record_lasts "Record.lasts" = true)
    (iK_Record_lasts : PySem.W.keepIn K (.ref f_Record_lasts) = true)
    (iA_Record_floor_behind : PySem.W.findIn K (.ref C_Record) "floor_behind" = some (some (.ref f_Record_floor_behind)))
    (iT_Record_floor_behind : PySem.W.typeIn K (.ref f_Record_floor_behind) = some (.type "function"))
    (iL_Record_floor_behind : K.lookup f_Record_floor_behind = some ⟨oc_Record_floor_behind, od_Record_floor_behind, .func (PySem.W.fnOf "floor_behind" "Record.floor_behind" (defArgs s_Record_floor_behind) (defBody s_Record_floor_behind) (defScope s_Record_floor_behind) .none kV_Record_floor_behind dc_Record_floor_behind pm_Record_floor_behind an_Record_floor_behind cd_Record_floor_behind ct_Record_floor_behind), sl_Record_floor_behind⟩)
    (iC_Record_floor_behind : PySem.W.codeIn K cd_Record_floor_behind "Record.floor_behind" = true)
    (iK_Record_floor_behind : PySem.W.keepIn K (.ref f_Record_floor_behind) = true)
    (a_Trail : PySem.W.nsIn K mainGlobals "Trail" = some (some (.ref C_Trail)))
    (pg_Trail : PySem.W.plainGet K C_Trail Str.empty = true)
    (hd_Trail : PySem.W.hasDictIn K C_Trail = true)
    (po_Trail : PySem.W.plainOver K C_Trail = true)
    (sa_Trail : PySem.W.findIn K (.ref C_Trail) "__setattr__" = some (some (.builtin "object.__setattr__")))
    (mk_Trail : PySem.W.makesIn K C_Trail = true)
    (kc_Trail : PySem.W.keepIn K (.ref C_Trail) = true)
    (n_Trail_table : PySem.W.findIn K (.ref C_Trail) "table" = some none)
    (n_Trail_floor : PySem.W.findIn K (.ref C_Trail) "floor" = some none)
    (n_Trail_walker : PySem.W.findIn K (.ref C_Trail) "walker" = some none)
    (n_Trail_record : PySem.W.findIn K (.ref C_Trail) "record" = some none)
    (iA_Trail_length : PySem.W.findIn K (.ref C_Trail) "length" = some (some (.ref f_Trail_length)))
    (iT_Trail_length : PySem.W.typeIn K (.ref f_Trail_length) = some (.type "function"))
    (iL_Trail_length : K.lookup f_Trail_length = some ⟨oc_Trail_length, od_Trail_length, .func (PySem.W.fnOf "length" "Trail.length" (defArgs s_Trail_length) (defBody s_Trail_length) (defScope s_Trail_length) .none kV_Trail_length dc_Trail_length pm_Trail_length an_Trail_length cd_Trail_length ct_Trail_length), sl_Trail_length⟩)
    (iC_Trail_length : PySem.W.codeIn K cd_Trail_length "Trail.length" = true)
    (iK_Trail_length : PySem.W.keepIn K (.ref f_Trail_length) = true)
    (iA_Trail_walker_at : PySem.W.findIn K (.ref C_Trail) "walker_at" = some (some (.ref f_Trail_walker_at)))
    (iT_Trail_walker_at : PySem.W.typeIn K (.ref f_Trail_walker_at) = some (.type "function"))
    (iL_Trail_walker_at : K.lookup f_Trail_walker_at = some ⟨oc_Trail_walker_at, od_Trail_walker_at, .func (PySem.W.fnOf "walker_at" "Trail.walker_at" (defArgs s_Trail_walker_at) (defBody s_Trail_walker_at) (defScope s_Trail_walker_at) .none kV_Trail_walker_at dc_Trail_walker_at pm_Trail_walker_at an_Trail_walker_at cd_Trail_walker_at ct_Trail_walker_at), sl_Trail_walker_at⟩)
    (iC_Trail_walker_at : PySem.W.codeIn K cd_Trail_walker_at "Trail.walker_at" = true)
    (iK_Trail_walker_at : PySem.W.keepIn K (.ref f_Trail_walker_at) = true)
    (iA_Trail_floor_at : PySem.W.findIn K (.ref C_Trail) "floor_at" = some (some (.ref f_Trail_floor_at)))
    (iT_Trail_floor_at : PySem.W.typeIn K (.ref f_Trail_floor_at) = some (.type "function"))
    (iL_Trail_floor_at : K.lookup f_Trail_floor_at = some ⟨oc_Trail_floor_at, od_Trail_floor_at, .func (PySem.W.fnOf "floor_at" "Trail.floor_at" (defArgs s_Trail_floor_at) (defBody s_Trail_floor_at) (defScope s_Trail_floor_at) .none kV_Trail_floor_at dc_Trail_floor_at pm_Trail_floor_at an_Trail_floor_at cd_Trail_floor_at ct_Trail_floor_at), sl_Trail_floor_at⟩)
    (iC_Trail_floor_at : PySem.W.codeIn K cd_Trail_floor_at "Trail.floor_at" = true)
    (iK_Trail_floor_at : PySem.W.keepIn K (.ref f_Trail_floor_at) = true)
    (iA_Trail_init : PySem.W.findIn K (.ref C_Trail) "__init__" = some (some (.ref f_Trail_init)))
    (iT_Trail_init : PySem.W.typeIn K (.ref f_Trail_init) = some (.type "function"))
    (iL_Trail_init : K.lookup f_Trail_init = some ⟨oc_Trail_init, od_Trail_init, .func (PySem.W.fnOf "__init__" "Trail.__init__" (defArgs s_Trail_init) (defBody s_Trail_init) (defScope s_Trail_init) .none kV_Trail_init dc_Trail_init pm_Trail_init an_Trail_init cd_Trail_init ct_Trail_init), sl_Trail_init⟩)
    (iC_Trail_init : PySem.W.codeIn K cd_Trail_init "Trail.__init__" = true)
    (iK_Trail_init : PySem.W.keepIn K (.ref f_Trail_init) = true)
    (iA_Trail_go_on : PySem.W.findIn K (.ref C_Trail) "go_on" = some (some (.ref f_Trail_go_on)))
    (iT_Trail_go_on : PySem.W.typeIn K (.ref f_Trail_go_on) = some (.type "function"))
    (iL_Trail_go_on : K.lookup f_Trail_go_on = some ⟨oc_Trail_go_on, od_Trail_go_on, .func (PySem.W.fnOf "go_on" "Trail.go_on" (defArgs s_Trail_go_on) (defBody s_Trail_go_on) (defScope s_Trail_go_on) .none kV_Trail_go_on dc_Trail_go_on pm_Trail_go_on an_Trail_go_on cd_Trail_go_on ct_Trail_go_on), sl_Trail_go_on⟩)
    (iC_Trail_go_on : PySem.W.codeIn K cd_Trail_go_on "Trail.go_on" = true)
    (iK_Trail_go_on : PySem.W.keepIn K (.ref f_Trail_go_on) = true)
    : ∃ fd : FuncData, (∀ (s : Shared) (v : Value), BindsTo s fd ⟨[v], []⟩ [("script", v)]) ∧ ∀ base : Heap, K.In base → base.Ns mainGlobals mg → FnOk P w K mg base CX0 8 fa fd ["script"] (spLaw K) := by
  have e := hfa.symm.trans (PySem.W.mg_of X G a33)
  cases e
  have D_wall : DefAt K mg "_wall" s_u_wall ["k"] := defAt_mk X G a0 l0 c0 k0 (fun _ _ _ _ _ _ us hl => match us, hl with | [_], _ => rfl)
  have D_is_whole : DefAt K mg "is_whole" s_is_whole ["value", "least", "greatest"] := defAt_mk X G a1 l1 c1 k1 (fun _ _ _ _ _ _ us hl => match us, hl with | [_, _, _], _ => rfl)
  have D_is_place : DefAt K mg "is_place" s_is_place ["value"] := defAt_mk X G a2 l2 c2 k2 (fun _ _ _ _ _ _ us hl => match us, hl with | [_], _ => rfl)
  have D_check_number : DefAt K mg "check_number" s_check_number ["value", "least", "greatest"] := defAt_mk X G a3 l3 c3 k3 (fun _ _ _ _ _ _ us hl => match us, hl with | [_, _, _], _ => rfl)
  have D_check_table : DefAt K mg "check_table" s_check_table ["value"] := defAt_mk X G a4 l4 c4 k4 (fun _ _ _ _ _ _ us hl => match us, hl with | [_], _ => rfl)
  have D_is_table : DefAt K mg "is_table" s_is_table ["value"] := defAt_mk X G a5 l5 c5 k5 (fun _ _ _ _ _ _ us hl => match us, hl with | [_], _ => rfl)
  have D_is_entry : DefAt K mg "_is_entry" s_u_is_entry ["value", "colours", "states"] := defAt_mk X G a6 l6 c6 k6 (fun _ _ _ _ _ _ us hl => match us, hl with | [_, _, _], _ => rfl)
  have D_box : DefAt K mg "box" s_box ["floor"] := defAt_mk X G a7 l7 c7 k7 (fun _ _ _ _ _ _ us hl => match us, hl with | [_], _ => rfl)
  have D_write_floor : DefAt K mg "write_floor" s_write_floor ["floor"] := defAt_mk X G a8 l8 c8 k8 (fun _ _ _ _ _ _ us hl => match us, hl with | [_], _ => rfl)
  have D_check_floor : DefAt K mg "check_floor" s_check_floor ["value", "colours"] := defAt_mk X G a9 l9 c9 k9 (fun _ _ _ _ _ _ us hl => match us, hl with | [_, _], _ => rfl)
  have D_painted_places : DefAt K mg "painted_places" s_painted_places ["floor"] := defAt_mk X G a10 l10 c10 k10 (fun _ _ _ _ _ _ us hl => match us, hl with | [_], _ => rfl)
  have D_floor_of : DefAt K mg "floor_of" s_floor_of ["painted"] := defAt_mk X G a11 l11 c11 k11 (fun _ _ _ _ _ _ us hl => match us, hl with | [_], _ => rfl)
  have D_box_of : DefAt K mg "box_of" s_box_of ["places"] := defAt_mk X G a12 l12 c12 k12 (fun _ _ _ _ _ _ us hl => match us, hl with | [_], _ => rfl)
  have D_paint_square : DefAt K mg "paint_square" s_paint_square ["painted", "place", "colour"] := defAt_mk X G a13 l13 c13 k13 (fun _ _ _ _ _ _ us hl => match us, hl with | [_, _, _], _ => rfl)
  have D_is_square : DefAt K mg "_is_square" s_u_is_square ["value", "colours"] := defAt_mk X G a14 l14 c14 k14 (fun _ _ _ _ _ _ us hl => match us, hl with | [_, _], _ => rfl)
  have D_row_text : DefAt K mg "_row_text" s_u_row_text ["row"] := defAt_mk X G a15 l15 c15 k15 (fun _ _ _ _ _ _ us hl => match us, hl with | [_], _ => rfl)
  have D_check_stand : DefAt K mg "check_stand" s_check_stand ["table", "floor", "walker"] := defAt_mk X G a16 l16 c16 k16 (fun _ _ _ _ _ _ us hl => match us, hl with | [_, _, _], _ => rfl)
  have D_check_walker : DefAt K mg "check_walker" s_check_walker ["value", "states"] := defAt_mk X G a17 l17 c17 k17 (fun _ _ _ _ _ _ us hl => match us, hl with | [_, _], _ => rfl)
  have D_is_walker : DefAt K mg "is_walker" s_is_walker ["value", "states"] := defAt_mk X G a18 l18 c18 k18 (fun _ _ _ _ _ _ us hl => match us, hl with | [_, _], _ => rfl)
  have D_walker_behind : DefAt K mg "_walker_behind" s_u_walker_behind ["walker", "entry"] := defAt_mk X G a19 l19 c19 k19 (fun _ _ _ _ _ _ us hl => match us, hl with | [_, _], _ => rfl)
  have D_write_walker : DefAt K mg "write_walker" s_write_walker ["walker"] := defAt_mk X G a20 l20 c20 k20 (fun _ _ _ _ _ _ us hl => match us, hl with | [_], _ => rfl)
  have D_trail_text : DefAt K mg "_trail_text" s_u_trail_text ["length", "floor", "walker"] := defAt_mk X G a21 l21 c21 k21 (fun _ _ _ _ _ _ us hl => match us, hl with | [_, _, _], _ => rfl)
  have D_never_bounded : DefAt K mg "never_bounded" s_never_bounded ["table"] := defAt_mk X G a22 l22 c22 k22 (fun _ _ _ _ _ _ us hl => match us, hl with | [_], _ => rfl)
  have D_check_turning : DefAt K mg "_check_turning" s_u_check_turning ["table"] := defAt_mk X G a23 l23 c23 k23 (fun _ _ _ _ _ _ us hl => match us, hl with | [_], _ => rfl)
  have D_rounds : DefAt K mg "_rounds" s_u_rounds ["table"] := defAt_mk X G a24 l24 c24 k24 (fun _ _ _ _ _ _ us hl => match us, hl with | [_], _ => rfl)
  have D_turns_both_ways : DefAt K mg "_turns_both_ways" s_u_turns_both_ways ["table", "colours"] := defAt_mk X G a25 l25 c25 k25 (fun _ _ _ _ _ _ us hl => match us, hl with | [_, _], _ => rfl)
  have D_law_taken : DefAt K mg "_law_taken" s_law_taken ["row", "many"] := defAt_mk X G a26 l26 c26 k26 (fun _ _ _ _ _ _ us hl => match us, hl with | [_, _], _ => rfl)
  have D_law_pick : DefAt K mg "_law_pick" s_law_pick ["row", "things"] := defAt_mk X G a27 l27 c27 k27 (fun _ _ _ _ _ _ us hl => match us, hl with | [_, _], _ => rfl)
  have D_law_turning_table : DefAt K mg "_law_turning_table" s_law_turning_table ["row"] := defAt_mk X G a28 l28 c28 k28 (fun _ _ _ _ _ _ us hl => match us, hl with | [_], _ => rfl)
  have D_law_signed : DefAt K mg "_law_signed" s_law_signed ["row", "most"] := defAt_mk X G a29 l29 c29 k29 (fun _ _ _ _ _ _ us hl => match us, hl with | [_, _], _ => rfl)
  have D_law_some_floor : DefAt K mg "_law_some_floor" s_law_some_floor ["row", "colours", "most"] := defAt_mk X G a30 l30 c30 k30 (fun _ _ _ _ _ _ us hl => match us, hl with | [_, _, _], _ => rfl)
  have D_law_walker : DefAt K mg "_law_walker" s_law_walker ["row", "table"] := defAt_mk X G a31 l31 c31 k31 (fun _ _ _ _ _ _ us hl => match us, hl with | [_, _], _ => rfl)
  have D_law_power : DefAt K mg "_law_power" s_law_power ["number", "many"] := defAt_mk X G a32 l32 c32 k32 (fun _ _ _ _ _ _ us hl => match us, hl with | [_, _], _ => rfl)
  have F_law : Fun K "law" "law" s_law _ _ := fun_mk (st := s_law) l33 c33 k33
  have T : Txt K mg := ⟨PySem.W.mg_none_of X G z_ValueError, PySem.W.mg_none_of X G z_all, PySem.W.mg_none_of X G z_any, PySem.W.mg_none_of X G z_bool, PySem.W.mg_none_of X G z_enumerate, PySem.W.mg_none_of X G z_int, PySem.W.mg_none_of X G z_isinstance, PySem.W.mg_none_of X G z_len, PySem.W.mg_none_of X G z_list, PySem.W.mg_none_of X G z_max, PySem.W.mg_none_of X G z_min, PySem.W.mg_none_of X G z_range, PySem.W.mg_none_of X G z_reversed, PySem.W.mg_none_of X G z_set, PySem.W.mg_none_of X G z_sorted, PySem.W.mg_none_of X G z_str, PySem.W.mg_none_of X G z_tuple, ⟨_, PySem.W.mg_of X G g_FAR⟩, ⟨_, PySem.W.mg_of X G g_MOST_STATES⟩, ⟨_, PySem.W.mg_of X G g_FEWEST_COLOURS⟩, ⟨_, PySem.W.mg_of X G g_MOST_COLOURS⟩, ⟨_, PySem.W.mg_of X G g_MOST_SQUARES⟩, ⟨_, PySem.W.mg_of X G g_LONGEST_SIDE⟩, ⟨_, PySem.W.mg_of X G g_SIGNS⟩, ⟨hA, hB0, hB1, hB2, hB3, PySem.W.mg_of X G g_AHEAD, ktu_of lA (Nat.le_of_ble_eq_true rfl) (.cons rfl (.cons rfl (.cons rfl (.cons rfl .nil)))), (ktu_of lB0 (Nat.le_of_ble_eq_true rfl) (.cons ⟨_, rfl⟩ (.cons ⟨_, rfl⟩ .nil))), (ktu_of lB1 (Nat.le_of_ble_eq_true rfl) (.cons ⟨_, rfl⟩ (.cons ⟨_, rfl⟩ .nil))), (ktu_of lB2 (Nat.le_of_ble_eq_true rfl) (.cons ⟨_, rfl⟩ (.cons ⟨_, rfl⟩ .nil))), (ktu_of lB3 (Nat.le_of_ble_eq_true rfl) (.cons ⟨_, rfl⟩ (.cons ⟨_, rfl⟩ .nil)))⟩, ⟨_, PySem.W.mg_of X G g_MOST_KEPT⟩, ⟨_, PySem.W.mg_of X G g_RIGHT⟩, ⟨_, PySem.W.mg_of X G g_LEFT⟩⟩
  have S_Stroll : ClsS K mg C_Stroll := ⟨⟨pg_Stroll, hd_Stroll, po_Stroll, sa_Stroll⟩, n_Stroll_table, n_Stroll_ground, n_Stroll_painted, n_Stroll_walker, PySem.W.mg_of X G a_Stroll⟩
  have hBlank : ∀ H, Tp K H (.ref hBL) blankD := fun H => .tup (ktu_of (xs := [.ref hBL0]) lBL (Nat.le_of_ble_eq_true rfl) (.cons rfl .nil) H) (.cons (.tup (ktu_of (xs := [.int 0]) lBL0 (Nat.le_of_ble_eq_true rfl) (.cons ⟨_, rfl⟩ .nil) H) (.cons (.int 0) .nil)) .nil)
  have M_Stroll_init : MetAtD K C_Stroll "__init__" "Stroll.__init__" s_Stroll_init ["self", "table", "floor", "walker", "ground"] [.ref hBL] := metAtD_mk 4 iA_Stroll_init iT_Stroll_init iL_Stroll_init iC_Stroll_init iK_Stroll_init dL_Stroll_init (.cons rfl .nil) (by simp) rfl (fun _ _ _ _ _ _ _ us its hl hi => match us, its, hl, hi with | [_, _, _, _], [_], _, _ => ⟨_, rfl, rfl⟩)
  have M_Stroll_colour_of : MetAt K C_Stroll "colour_of" "Stroll.colour_of" s_Stroll_colour_of ["self", "place"] := metAt_mk iA_Stroll_colour_of iT_Stroll_colour_of iL_Stroll_colour_of iC_Stroll_colour_of iK_Stroll_colour_of (fun _ _ _ _ _ _ us hl => match us, hl with | [_, _], _ => rfl)
  have M_Stroll_paint : MetAt K C_Stroll "paint" "Stroll.paint" s_Stroll_paint ["self", "place", "colour"] := metAt_mk iA_Stroll_paint iT_Stroll_paint iL_Stroll_paint iC_Stroll_paint iK_Stroll_paint (fun _ _ _ _ _ _ us hl => match us, hl with | [_, _, _], _ => rfl)
  have M_Stroll_go : MetAt K C_Stroll "go" "Stroll.go" s_Stroll_go ["self", "many"] := metAt_mk iA_Stroll_go iT_Stroll_go iL_Stroll_go iC_Stroll_go iK_Stroll_go (fun _ _ _ _ _ _ us hl => match us, hl with | [_, _], _ => rfl)
  have S_Record : ClsR K mg C_Record := ⟨⟨pg_Record, hd_Record, po_Record, sa_Record⟩, n_Record_stroll, n_Record_walkers, n_Record_counts, n_Record_colours, PySem.W.mg_of X G a_Record⟩
  have M_Record_length : MetAt K C_Record "length" "Record.length" s_Record_length ["self"] := metAt_mk iA_Record_length iT_Record_length iL_Record_length iC_Record_length iK_Record_length (fun _ _ _ _ _ _ us hl => match us, hl with | [_], _ => rfl)
  have M_Record_walker_behind : MetAt K C_Record "walker_behind" "Record.walker_behind" s_Record_walker_behind ["self", "step"] := metAt_mk iA_Record_walker_behind iT_Record_walker_behind iL_Record_walker_behind iC_Record_walker_behind iK_Record_walker_behind (fun _ _ _ _ _ _ us hl => match us, hl with | [_, _], _ => rfl)
  have M_Record_colour_behind : MetAt K C_Record "colour_behind" "Record.colour_behind" s_Record_colour_behind ["self", "step", "place"] := metAt_mk iA_Record_colour_behind iT_Record_colour_behind iL_Record_colour_behind iC_Record_colour_behind iK_Record_colour_behind (fun _ _ _ _ _ _ us hl => match us, hl with | [_, _, _], _ => rfl)
  have M_Record_init : MetAt K C_Record "__init__" "Record.__init__" s_Record_init ["self", "table", "floor", "walker"] := metAt_mk iA_Record_init iT_Record_init iL_Record_init iC_Record_init iK_Record_init (fun _ _ _ _ _ _ us hl => match us, hl with | [_, _, _, _], _ => rfl)
  have M_Record_lasts : MetAt K C_Record "lasts" "Record.lasts" s_Record_lasts ["self", "step"] := metAt_mk iA_Record_lasts iT_Record_lasts iL_Record_lasts iC_Record_lasts iK_Record_lasts (fun _ _ _ _ _ _ us hl => match us, hl with | [_, _], _ => rfl)
  have M_Record_floor_behind : MetAt K C_Record "floor_behind" "Record.floor_behind" s_Record_floor_behind ["self", "step"] := metAt_mk iA_Record_floor_behind iT_Record_floor_behind iL_Record_floor_behind iC_Record_floor_behind iK_Record_floor_behind (fun _ _ _ _ _ _ us hl => match us, hl with | [_, _], _ => rfl)
  have S_Trail : ClsT K mg C_Trail := ⟨⟨pg_Trail, hd_Trail, po_Trail, sa_Trail⟩, n_Trail_table, n_Trail_floor, n_Trail_walker, n_Trail_record, PySem.W.mg_of X G a_Trail⟩
  have M_Trail_length : MetAt K C_Trail "length" "Trail.length" s_Trail_length ["self"] := metAt_mk iA_Trail_length iT_Trail_length iL_Trail_length iC_Trail_length iK_Trail_length (fun _ _ _ _ _ _ us hl => match us, hl with | [_], _ => rfl)
  have M_Trail_walker_at : MetAt K C_Trail "walker_at" "Trail.walker_at" s_Trail_walker_at ["self", "step"] := metAt_mk iA_Trail_walker_at iT_Trail_walker_at iL_Trail_walker_at iC_Trail_walker_at iK_Trail_walker_at (fun _ _ _ _ _ _ us hl => match us, hl with | [_, _], _ => rfl)
  have M_Trail_floor_at : MetAt K C_Trail "floor_at" "Trail.floor_at" s_Trail_floor_at ["self", "step"] := metAt_mk iA_Trail_floor_at iT_Trail_floor_at iL_Trail_floor_at iC_Trail_floor_at iK_Trail_floor_at (fun _ _ _ _ _ _ us hl => match us, hl with | [_, _], _ => rfl)
  have M_Trail_init : MetAt K C_Trail "__init__" "Trail.__init__" s_Trail_init ["self", "table", "floor", "walker"] := metAt_mk iA_Trail_init iT_Trail_init iL_Trail_init iC_Trail_init iK_Trail_init (fun _ _ _ _ _ _ us hl => match us, hl with | [_, _, _, _], _ => rfl)
  have M_Trail_go_on : MetAt K C_Trail "go_on" "Trail.go_on" s_Trail_go_on ["self", "many"] := metAt_mk iA_Trail_go_on iT_Trail_go_on iL_Trail_go_on iC_Trail_go_on iK_Trail_go_on (fun _ _ _ _ _ _ us hl => match us, hl with | [_, _], _ => rfl)
  refine ⟨PySem.W.fnOf "law" "law" (defArgs s_law) (defBody s_law) (defScope s_law) .none kV33 dc33 pm33 an33 cd33 ct33, fun s v => .of_eq rfl, fun base hb hg => ?_⟩
  have C_law_taken := ok_law_taken (P := P) (w := w) (base := base) T D_law_taken
  have C_is_whole := ok_is_whole (P := P) (w := w) (base := base) T D_is_whole
  have C_is_entry := ok_u_is_entry (P := P) (w := w) (base := base) T D_is_entry C_is_whole
  have C_is_table := ok_is_table (P := P) (w := w) (base := base) T D_is_table C_is_entry
  have C_check_table := ok_check_table (P := P) (w := w) (base := base) T D_check_table C_is_table
  have C_law_pick := ok_law_pick (P := P) (w := w) (base := base) T D_law_pick C_law_taken
  have C_law_turning_table := ok_law_turning_table (P := P) (w := w) (base := base) T D_law_turning_table C_law_taken C_law_pick
  have C_turns_both_ways := ok_u_turns_both_ways (P := P) (w := w) (base := base) T D_turns_both_ways
  have C_check_turning := ok_u_check_turning (P := P) (w := w) (base := base) T D_check_turning C_check_table
  have C_rounds := ok_u_rounds (P := P) (w := w) (base := base) T D_rounds
  have C_never_bounded := ok_never_bounded (P := P) (w := w) (base := base) T D_never_bounded C_check_turning C_rounds C_turns_both_ways
  have C_is_place := ok_is_place (P := P) (w := w) (base := base) T D_is_place C_is_whole
  have C_check_number := ok_check_number (P := P) (w := w) (base := base) T D_check_number C_is_whole
  have C_is_square := ok_u_is_square (P := P) (w := w) (base := base) T D_is_square C_is_whole C_is_place
  have C_is_walker := ok_is_walker (P := P) (w := w) (base := base) T D_is_walker C_is_whole C_is_place
  have C_check_walker := ok_check_walker (P := P) (w := w) (base := base) T D_check_walker C_is_walker
  have C_check_floor := ok_check_floor (P := P) (w := w) (base := base) T D_check_floor C_is_square
  have C_painted_places := ok_painted_places (P := P) (w := w) (base := base) T D_painted_places
  have C_floor_of := ok_floor_of (P := P) (w := w) (base := base) T D_floor_of
  have C_paint_square := ok_paint_square (P := P) (w := w) (base := base) T D_paint_square
  have C_walker_behind := ok_u_walker_behind (P := P) (w := w) (base := base) T D_walker_behind
  have MC_Stroll_init := ok_Stroll_init (P := P) (w := w) (base := base) S_Stroll hBlank M_Stroll_init C_painted_places
  have MC_Stroll_colour_of := ok_Stroll_col (P := P) (w := w) (base := base) S_Stroll M_Stroll_colour_of
  have MC_Stroll_paint := ok_Stroll_paint (P := P) (w := w) (base := base) S_Stroll M_Stroll_paint C_paint_square
  have C_walker_behind := ok_u_walker_behindT (P := P) (w := w) (base := base) T D_walker_behind
  have MC_Stroll_go := ok_Stroll_go2 (P := P) (w := w) (base := base) T S_Stroll MC_Stroll_colour_of MC_Stroll_paint M_Stroll_go C_walker_behind
  have C_check_stand := ok_check_stand (P := P) (w := w) (base := base) T D_check_stand C_check_table C_check_floor C_check_walker
  have MC_Record_length := ok_Record_length (P := P) (w := w) (base := base) T S_Record M_Record_length
  have MC_Record_walker_behind := ok_Record_walker (P := P) (w := w) (base := base) T S_Record M_Record_walker_behind
  have MC_Trail_length := ok_Trail_length (P := P) (w := w) (base := base) T S_Record S_Trail MC_Record_length M_Trail_length
  have MC_Trail_walker_at := ok_Trail_walker (P := P) (w := w) (base := base) T S_Record S_Trail C_check_number MC_Trail_length MC_Record_walker_behind M_Trail_walker_at
  have MC_Record_colour_behind := ok_Record_colour (P := P) (w := w) (base := base) T S_Record M_Record_colour_behind
  have MC_Record_init := ok_Record_init (P := P) (w := w) (base := base) T S_Record S_Stroll mk_Stroll kc_Stroll MC_Stroll_init M_Record_init
  have MC_Record_lasts := ok_Record_lasts (P := P) (w := w) (base := base) T S_Record S_Stroll MC_Record_length MC_Stroll_go M_Record_lasts
  have MC_Record_floor_behind := ok_Record_floor (P := P) (w := w) (base := base) (CS := C_Stroll) T S_Record MC_Record_colour_behind M_Record_floor_behind C_floor_of
  have MC_Trail_floor_at := ok_Trail_floor (P := P) (w := w) (base := base) (CS := C_Stroll) T S_Record S_Trail C_check_number MC_Trail_length MC_Record_floor_behind M_Trail_floor_at
  have MC_Trail_init := ok_Trail_init (P := P) (w := w) (base := base) (CS := C_Stroll) T S_Record S_Trail mk_Record kc_Record C_check_stand MC_Record_init M_Trail_init
  have MC_Trail_go_on := ok_Trail_go (P := P) (w := w) (base := base) (CS := C_Stroll) T S_Record S_Trail C_check_number MC_Trail_length MC_Record_lasts M_Trail_go_on
  have C_law_signed := ok_law_signed (P := P) (w := w) (base := base) T D_law_signed C_law_taken
  have C_law_walker := ok_law_walker (P := P) (w := w) (base := base) T D_law_walker C_law_taken C_law_signed
  have C_law_some_floor := ok_law_some_floor (P := P) (w := w) (base := base) T D_law_some_floor C_law_taken C_law_signed
  have C_law_power := ok_law_power (P := P) (w := w) (base := base) T D_law_power
  exact ok_law T S_Trail mk_Trail kc_Trail F_law C_law_turning_table C_law_taken C_law_some_floor C_law_walker C_law_power C_never_bounded MC_Trail_init MC_Trail_go_on MC_Trail_walker_at MC_Trail_floor_at
end Sb
open PySem PySem.W PyProof.Rows
set_option maxHeartbeats 0 in
theorem PySem.Challenge.cw_streetpapers_k09_across_corners_holds : PySem.Challenge.rw_streetpapers_k09_across_corners.Holds := by
  w_on; o_law; k_head; (case hw => w_witness2)
  k_fill
  refine L2.walk_of (l := PySem.Challenge.rw_streetpapers_k09_across_corners) (n := 63) (k := 8) (x := "script") (CX := fun _ => L2.CX0) (sp := fun w => Sb.spLaw _) rfl (by decide) rfl ⟨rfl, by decide, by decide⟩ (fun w h Y => PySem.W.kIn_of Y) ?F (fun _ _ a ns hl o hS => ⟨a, ns, rfl, Sb.Scr.of o hS, fun _ => rfl⟩) (fun _ _ _ _ _ h => h)
  case F =>
    intro w mg fa h KX G hmg
    refine' Sb.all_mk KX G hmg ?a0 ?l0 ?c0 ?k0 ?a1 ?l1 ?c1 ?k1 ?a2 ?l2 ?c2 ?k2 ?a3 ?l3 ?c3 ?k3 ?a4 ?l4 ?c4 ?k4 ?a5 ?l5 ?c5 ?k5 ?a6 ?l6 ?c6 ?k6 ?a7 ?l7 ?c7 ?k7 ?a8 ?l8 ?c8 ?k8 ?a9 ?l9 ?c9 ?k9 ?a10 ?l10 ?c10 ?k10 ?a11 ?l11 ?c11 ?k11 ?a12 ?l12 ?c12 ?k12 ?a13 ?l13 ?c13 ?k13 ?a14 ?l14 ?c14 ?k14 ?a15 ?l15 ?c15 ?k15 ?a16 ?l16 ?c16 ?k16 ?a17 ?l17 ?c17 ?k17 ?a18 ?l18 ?c18 ?k18 ?a19 ?l19 ?c19 ?k19 ?a20 ?l20 ?c20 ?k20 ?a21 ?l21 ?c21 ?k21 ?a22 ?l22 ?c22 ?k22 ?a23 ?l23 ?c23 ?k23 ?a24 ?l24 ?c24 ?k24 ?a25 ?l25 ?c25 ?k25 ?a26 ?l26 ?c26 ?k26 ?a27 ?l27 ?c27 ?k27 ?a28 ?l28 ?c28 ?k28 ?a29 ?l29 ?c29 ?k29 ?a30 ?l30 ?c30 ?k30 ?a31 ?l31 ?c31 ?k31 ?a32 ?l32 ?c32 ?k32 ?a33 ?l33 ?c33 ?k33 ?z_ValueError ?z_all ?z_any ?z_bool ?z_enumerate ?z_int ?z_isinstance ?z_len ?z_list ?z_max ?z_min ?z_range ?z_reversed ?z_set ?z_sorted ?z_str ?z_tuple ?g_FAR ?g_MOST_STATES ?g_FEWEST_COLOURS ?g_MOST_COLOURS ?g_MOST_SQUARES ?g_LONGEST_SIDE ?g_SIGNS ?g_AHEAD ?lA ?lB0 ?lB1 ?lB2 ?lB3 ?g_MOST_KEPT ?g_RIGHT ?g_LEFT ?a_Stroll ?pg_Stroll ?hd_Stroll ?po_Stroll ?sa_Stroll ?mk_Stroll ?kc_Stroll ?n_Stroll_table ?n_Stroll_ground ?n_Stroll_painted ?n_Stroll_walker ?iA_Stroll_init ?iT_Stroll_init ?iL_Stroll_init ?dL_Stroll_init ?lBL ?lBL0 ?iC_Stroll_init ?iK_Stroll_init ?iA_Stroll_colour_of ?iT_Stroll_colour_of ?iL_Stroll_colour_of ?iC_Stroll_colour_of ?iK_Stroll_colour_of ?iA_Stroll_paint ?iT_Stroll_paint ?iL_Stroll_paint ?iC_Stroll_paint ?iK_Stroll_paint ?iA_Stroll_go ?iT_Stroll_go ?iL_Stroll_go ?iC_Stroll_go ?iK_Stroll_go ?a_Record ?pg_Record ?hd_Record ?po_Record ?sa_Record ?mk_Record ?kc_Record ?n_Record_stroll ?n_Record_walkers ?n_Record_counts ?n_Record_colours ?iA_Record_length ?iT_Record_length ?iL_Record_length ?iC_Record_length ?iK_Record_length ?iA_Record_walker_behind ?iT_Record_walker_behind ?iL_Record_walker_behind ?iC_Record_walker_behind ?iK_Record_walker_behind ?iA_Record_colour_behind ?iT_Record_colour_behind ?iL_Record_colour_behind ?iC_Record_colour_behind ?iK_Record_colour_behind ?iA_Record_init ?iT_Record_init ?iL_Record_init ?iC_Record_init ?iK_Record_init ?iA_Record_lasts ?iT_Record_lasts ?iL_Record_lasts ?iC_Record_lasts ?iK_Record_lasts ?iA_Record_floor_behind ?iT_Record_floor_behind ?iL_Record_floor_behind ?iC_Record_floor_behind ?iK_Record_floor_behind ?a_Trail ?pg_Trail ?hd_Trail ?po_Trail ?sa_Trail ?mk_Trail ?kc_Trail ?n_Trail_table ?n_Trail_floor ?n_Trail_walker ?n_Trail_record ?iA_Trail_length ?iT_Trail_length ?iL_Trail_length ?iC_Trail_length ?iK_Trail_length ?iA_Trail_walker_at ?iT_Trail_walker_at ?iL_Trail_walker_at ?iC_Trail_walker_at ?iK_Trail_walker_at ?iA_Trail_floor_at ?iT_Trail_floor_at ?iL_Trail_floor_at ?iC_Trail_floor_at ?iK_Trail_floor_at ?iA_Trail_init ?iT_Trail_init ?iL_Trail_init ?iC_Trail_init ?iK_Trail_init ?iA_Trail_go_on ?iT_Trail_go_on ?iL_Trail_go_on ?iC_Trail_go_on ?iK_Trail_go_on
    (case a0 => k_is)
    (case l0 => k_is)
    (case c0 => k_is)
    (case k0 => k_is)
    (case a1 => k_is)
    (case l1 => k_is)
    (case c1 => k_is)
    (case k1 => k_is)
    (case a2 => k_is)
    (case l2 => k_is)
    (case c2 => k_is)
    (case k2 => k_is)
    (case a3 => k_is)
    (case l3 => k_is)
    (case c3 => k_is)
    (case k3 => k_is)
    (case a4 => k_is)
    (case l4 => k_is)
    (case c4 => k_is)
    (case k4 => k_is)
    (case a5 => k_is)
    (case l5 => k_is)
    (case c5 => k_is)
    (case k5 => k_is)
    (case a6 => k_is)
    (case l6 => k_is)
    (case c6 => k_is)
    (case k6 => k_is)
    (case a7 => k_is)
    (case l7 => k_is)
    (case c7 => k_is)
    (case k7 => k_is)
    (case a8 => k_is)
    (case l8 => k_is)
    (case c8 => k_is)
    (case k8 => k_is)
    (case a9 => k_is)
    (case l9 => k_is)
    (case c9 => k_is)
    (case k9 => k_is)
    (case a10 => k_is)
    (case l10 => k_is)
    (case c10 => k_is)
    (case k10 => k_is)
    (case a11 => k_is)
    (case l11 => k_is)
    (case c11 => k_is)
    (case k11 => k_is)
    (case a12 => k_is)
    (case l12 => k_is)
    (case c12 => k_is)
    (case k12 => k_is)
    (case a13 => k_is)
    (case l13 => k_is)
    (case c13 => k_is)
    (case k13 => k_is)
    (case a14 => k_is)
    (case l14 => k_is)
    (case c14 => k_is)
    (case k14 => k_is)
    (case a15 => k_is)
    (case l15 => k_is)
    (case c15 => k_is)
    (case k15 => k_is)
    (case a16 => k_is)
    (case l16 => k_is)
    (case c16 => k_is)
    (case k16 => k_is)
    (case a17 => k_is)
    (case l17 => k_is)
    (case c17 => k_is)
    (case k17 => k_is)
    (case a18 => k_is)
    (case l18 => k_is)
    (case c18 => k_is)
    (case k18 => k_is)
    (case a19 => k_is)
    (case l19 => k_is)
    (case c19 => k_is)
    (case k19 => k_is)
    (case a20 => k_is)
    (case l20 => k_is)
    (case c20 => k_is)
    (case k20 => k_is)
    (case a21 => k_is)
    (case l21 => k_is)
    (case c21 => k_is)
    (case k21 => k_is)
    (case a22 => k_is)
    (case l22 => k_is)
    (case c22 => k_is)
    (case k22 => k_is)
    (case a23 => k_is)
    (case l23 => k_is)
    (case c23 => k_is)
    (case k23 => k_is)
    (case a24 => k_is)
    (case l24 => k_is)
    (case c24 => k_is)
    (case k24 => k_is)
    (case a25 => k_is)
    (case l25 => k_is)
    (case c25 => k_is)
    (case k25 => k_is)
    (case a26 => k_is)
    (case l26 => k_is)
    (case c26 => k_is)
    (case k26 => k_is)
    (case a27 => k_is)
    (case l27 => k_is)
    (case c27 => k_is)
    (case k27 => k_is)
    (case a28 => k_is)
    (case l28 => k_is)
    (case c28 => k_is)
    (case k28 => k_is)
    (case a29 => k_is)
    (case l29 => k_is)
    (case c29 => k_is)
    (case k29 => k_is)
    (case a30 => k_is)
    (case l30 => k_is)
    (case c30 => k_is)
    (case k30 => k_is)
    (case a31 => k_is)
    (case l31 => k_is)
    (case c31 => k_is)
    (case k31 => k_is)
    (case a32 => k_is)
    (case l32 => k_is)
    (case c32 => k_is)
    (case k32 => k_is)
    (case a33 => k_is)
    (case l33 => k_is)
    (case c33 => k_is)
    (case k33 => k_is)
    (case z_ValueError => k_is)
    (case z_all => k_is)
    (case z_any => k_is)
    (case z_bool => k_is)
    (case z_enumerate => k_is)
    (case z_int => k_is)
    (case z_isinstance => k_is)
    (case z_len => k_is)
    (case z_list => k_is)
    (case z_max => k_is)
    (case z_min => k_is)
    (case z_range => k_is)
    (case z_reversed => k_is)
    (case z_set => k_is)
    (case z_sorted => k_is)
    (case z_str => k_is)
    (case z_tuple => k_is)
    (case g_FAR => k_is)
    (case g_MOST_STATES => k_is)
    (case g_FEWEST_COLOURS => k_is)
    (case g_MOST_COLOURS => k_is)
    (case g_MOST_SQUARES => k_is)
    (case g_LONGEST_SIDE => k_is)
    (case g_SIGNS => k_is)
    (case g_AHEAD => k_is)
    (case lA => k_is)
    (case lB0 => k_is)
    (case lB1 => k_is)
    (case lB2 => k_is)
    (case lB3 => k_is)
    (case g_MOST_KEPT => k_is)
    (case g_RIGHT => k_is)
    (case g_LEFT => k_is)
    (case a_Stroll => k_is)
    (case pg_Stroll => k_is)
    (case hd_Stroll => k_is)
    (case po_Stroll => k_is)
    (case sa_Stroll => k_is)
    (case mk_Stroll => k_is)
    (case kc_Stroll => k_is)
    (case n_Stroll_table => k_is)
    (case n_Stroll_ground => k_is)
    (case n_Stroll_painted => k_is)
    (case n_Stroll_walker => k_is)
    (case iA_Stroll_init => k_is)
    (case iT_Stroll_init => k_is)
    (case iL_Stroll_init => k_is)
    (case dL_Stroll_init => k_is)
    (case lBL => k_is)
    (case lBL0 => k_is)
    (case iC_Stroll_init => k_is)
    (case iK_Stroll_init => k_is)
    (case iA_Stroll_colour_of => k_is)
    (case iT_Stroll_colour_of => k_is)
    (case iL_Stroll_colour_of => k_is)
    (case iC_Stroll_colour_of => k_is)
    (case iK_Stroll_colour_of => k_is)
    (case iA_Stroll_paint => k_is)
    (case iT_Stroll_paint => k_is)
    (case iL_Stroll_paint => k_is)
    (case iC_Stroll_paint => k_is)
    (case iK_Stroll_paint => k_is)
    (case iA_Stroll_go => k_is)
    (case iT_Stroll_go => k_is)
    (case iL_Stroll_go => k_is)
    (case iC_Stroll_go => k_is)
    (case iK_Stroll_go => k_is)
    (case a_Record => k_is)
    (case pg_Record => k_is)
    (case hd_Record => k_is)
    (case po_Record => k_is)
    (case sa_Record => k_is)
    (case mk_Record => k_is)
    (case kc_Record => k_is)
    (case n_Record_stroll => k_is)
    (case n_Record_walkers => k_is)
    (case n_Record_counts => k_is)
    (case n_Record_colours => k_is)
    (case iA_Record_length => k_is)
    (case iT_Record_length => k_is)
    (case iL_Record_length => k_is)
    (case iC_Record_length => k_is)
    (case iK_Record_length => k_is)
    (case iA_Record_walker_behind => k_is)
    (case iT_Record_walker_behind => k_is)
    (case iL_Record_walker_behind => k_is)
    (case iC_Record_walker_behind => k_is)
    (case iK_Record_walker_behind => k_is)
    (case iA_Record_colour_behind => k_is)
    (case iT_Record_colour_behind => k_is)
    (case iL_Record_colour_behind => k_is)
    (case iC_Record_colour_behind => k_is)
    (case iK_Record_colour_behind => k_is)
    (case iA_Record_init => k_is)
    (case iT_Record_init => k_is)
    (case iL_Record_init => k_is)
    (case iC_Record_init => k_is)
    (case iK_Record_init => k_is)
    (case iA_Record_lasts => k_is)
    (case iT_Record_lasts => k_is)
    (case iL_Record_lasts => k_is)
    (case iC_Record_lasts => k_is)
    (case iK_Record_lasts => k_is)
    (case iA_Record_floor_behind => k_is)
    (case iT_Record_floor_behind => k_is)
    (case iL_Record_floor_behind => k_is)
    (case iC_Record_floor_behind => k_is)
    (case iK_Record_floor_behind => k_is)
    (case a_Trail => k_is)
    (case pg_Trail => k_is)
    (case hd_Trail => k_is)
    (case po_Trail => k_is)
    (case sa_Trail => k_is)
    (case mk_Trail => k_is)
    (case kc_Trail => k_is)
    (case n_Trail_table => k_is)
    (case n_Trail_floor => k_is)
    (case n_Trail_walker => k_is)
    (case n_Trail_record => k_is)
    (case iA_Trail_length => k_is)
    (case iT_Trail_length => k_is)
    (case iL_Trail_length => k_is)
    (case iC_Trail_length => k_is)
    (case iK_Trail_length => k_is)
    (case iA_Trail_walker_at => k_is)
    (case iT_Trail_walker_at => k_is)
    (case iL_Trail_walker_at => k_is)
    (case iC_Trail_walker_at => k_is)
    (case iK_Trail_walker_at => k_is)
    (case iA_Trail_floor_at => k_is)
    (case iT_Trail_floor_at => k_is)
    (case iL_Trail_floor_at => k_is)
    (case iC_Trail_floor_at => k_is)
    (case iK_Trail_floor_at => k_is)
    (case iA_Trail_init => k_is)
    (case iT_Trail_init => k_is)
    (case iL_Trail_init => k_is)
    (case iC_Trail_init => k_is)
    (case iK_Trail_init => k_is)
    (case iA_Trail_go_on => k_is)
    (case iT_Trail_go_on => k_is)
    (case iL_Trail_go_on => k_is)
    (case iC_Trail_go_on => k_is)
    (case iK_Trail_go_on => k_is)
