import PyProof.Rows.All
import Wide.All
import OpenK.AllK
import Wide.FinOn
import HandS.ForMost
import HandS.Wide
import HandS.IsInst
import HandS.TupAny
import HandS.Style
import HandS.FStr
import HandS.StrMore
import HandS.WordsExc
import HandS.ExcInit
import HandS.ExcField
import HandS.CallSlots
import HandS.Defaults
import KE.KExcIs
import HandS.ExcIs
import KE.GoesMore
import KE.GoesEnum
import HandS.Iter
import HandS.Walk
import HandS.DictComp
import KE.KSortTupUse
import KE.KDictSum
import KE.KDictCopyH
import HandS.SortRule
import HandS.Conv
import HandS.Set
import HandS.Keys
import HandS.DictTup
import KE.KDictPairs
import HandS.WideBits
import HandS.TupLe
import HandS.TupLen
import HandS.Conv
import HandS.DictEq
import HandS.Deep
import KE.DataEq
import HandS.Zip
import HandS.Gcd
import HandS.SortInts
import HandS.SetKeys
import HandS.DictSub
import HandS.Flow
import PySem.Challenge.RW_streetpapers_k07_whole_finding
set_option Elab.async false
set_option linter.all false
set_option maxRecDepth 100000
set_option maxHeartbeats 4000000
namespace Sb
open PySem PySem.Spec PyProof.Rows L2 TL
/-! ### defs of the text, and what they promise -/
structure DefAt (K : PySem.W.Frag) (mg : Str → Option Value) (x : Str) (st : Stmt) (ps : List Str) : Prop where
  ex : ∃ (f : Addr) (fd : FuncData), Fun K x x st f fd ∧ mg x = some (.ref f) ∧ Binds K fd ps []
structure Cal (P : Program) (w : World) (K : PySem.W.Frag) (mg : Str → Option Value) (base : Heap) (CX : CXT) (x : Str) (k : Nat) (ps : List Str) (sp : Sp) : Prop where
  ex : ∃ (f : Addr) (fd : FuncData), FnOk P w K mg base CX k f fd ps sp ∧ mg x = some (.ref f) ∧ PySem.W.keepIn K (.ref f) = true ∧ Binds K fd ps []
section
variable {P : Program} {w : World} {K : PySem.W.Frag} {mg : Str → Option Value} {base : Heap}
theorem Cal.mono {CX : CXT} {x : Str} {j k : Nat} {ps : List Str} {sp : Sp} (C : Cal P w K mg base CX x j ps sp) (h : j ≤ k) : Cal P w K mg base CX x k ps sp := by
  obtain ⟨f, fd, F, m, kp, b⟩ := C.ex
  exact ⟨f, fd, F.mono h, m, kp, b⟩
theorem Cal.imp {CX : CXT} {x : Str} {k : Nat} {ps : List Str} {sp sp' : Sp} (C : Cal P w K mg base CX x k ps sp) (h : ∀ vs H Q E, sp' vs H Q E → sp vs H Q E) : Cal P w K mg base CX x k ps sp' := by
  obtain ⟨f, fd, F, m, kp, b⟩ := C.ex
  exact ⟨f, fd, F.imp h, m, kp, b⟩
theorem DefAt.cal {x : Str} {st : Stmt} {N ps : List Str} {k : Nat} {sp : Sp} (D : DefAt K mg x st ps) (S : FnScope N ps (defScope st)) (len : ∀ vs H Q E, sp vs H Q E → vs.length = ps.length)
    (hbody : ∀ (f : Addr) (cdv : Value) (A : Around) (outer : List Env) (s : Shared) (H : Hp) (vs : List V) (Q : VK) (E : XK), Room k (A.deeper (envOfC x (defScope st) s.heap.objs.size f cdv)) → sp vs H Q E →
      ∃ t, PSs (cxOf CX0 P w K mg base N x (defScope st) f cdv A outer s H E).nox (defBody st) t ∧ t { nx := fun _ H' => Q .non H', rt := Q } (start N vs) H) : Cal P w K mg base CX0 x (k + 1) ps sp := by
  obtain ⟨f, fd, F, m, b⟩ := D.ex
  exact ⟨f, fd, F.ok S len (hbody f), m, F.kp, b⟩
end
section
variable {X : Cx} {CX : CXT} {k j : Nat} {ps : List Str} {sp : Sp} {x : Str} {p pos : Pos} {e : Expr} {es : List Expr} {t : TA}
theorem pe_own (C : Cal X.prog X.w X.K X.mg X.base CX0 x k ps sp) (hr : Room j X.A) (hk : k ≤ j) (ha : PA X (e :: es) t) (hg : Gl X x := by rfl) (hdb : (x == ("__debug__" : Str)) = false := by decide)
    (he : starEach (e :: es) X.env = (false, eval e X.env) :: starEach es X.env := by rfl) (hpl : (backTo pos (starEach es X.env)).any (·.1) = false := by rfl) : PE X (.Call (.Name x p) (e :: es) [] pos) (tCall sp [] E0 t) := by
  obtain ⟨f, fd, F, m, kp, b⟩ := C.ex
  exact pe_call F (hr.mono hk) hg m kp b .nil pass0 ha hdb he hpl
theorem pe_own0 (C : Cal X.prog X.w X.K X.mg X.base CX0 x k ps sp) (hr : Room j X.A) (hk : k ≤ j) (hg : Gl X x := by rfl) (hdb : (x == ("__debug__" : Str)) = false := by decide) : PE X (.Call (.Name x p) [] [] pos) (tCall sp [] E0 tNil) := by
  obtain ⟨f, fd, F, m, kp, b⟩ := C.ex
  exact pe_call0 F (hr.mono hk) hg m kp b .nil pass0 hdb
end
/-- a word that the steps do not enter -/
structure Ok (p : Prop) : Prop where
  o : p
/-! ### heaps -/
def KeepB (r : Addr) (H H' : Hp) : Prop := ∀ b o, b ≠ r → H b = some o → H' b = some o
theorem KeepB.refl (r : Addr) (H : Hp) : KeepB r H H := fun _ _ _ h => h
theorem KeepB.trans {r : Addr} {H H1 H2 : Hp} (a : KeepB r H H1) (b : KeepB r H1 H2) : KeepB r H H2 := fun c o n h => b c o n (a c o n h)
theorem KeepB.put {r : Addr} {H : Hp} {o : HO} : KeepB r H (upd H r o) := fun b u n h => by
  rw [upd_ne n]
  exact h
theorem Same.keepB {r : Addr} {H H' : Hp} (s : Same H H') : KeepB r H H' := fun b o _ h => s b o h
theorem Same.new {H : Hp} {p : Addr} {o : HO} (h : H p = none) : Same H (upd H p o) := fun b u e => by
  rw [upd_ne (ne_of_none e h)]
  exact e
/-- tuples and what is frozen stay -/
structure TK (H H' : Hp) : Prop where
  tup : ∀ b xs, H b = some (.tup xs) → H' b = some (.tup xs)
  frz : ∀ b o u, H b = some (.frz o u) → H' b = some (.frz o u)
theorem TK.refl (H : Hp) : TK H H := ⟨fun _ _ h => h, fun _ _ _ h => h⟩
theorem TK.trans {H H1 H2 : Hp} (a : TK H H1) (b : TK H1 H2) : TK H H2 := ⟨fun c x h => b.tup c x (a.tup c x h), fun c o u h => b.frz c o u (a.frz c o u h)⟩
theorem Same.tk {H H' : Hp} (s : Same H H') : TK H H' := ⟨fun b xs h => s b _ h, fun b o u h => s b _ h⟩
theorem KeepB.tk {r : Addr} {H H' : Hp} {xs : List V} (s : KeepB r H H') (h : H r = some (.lst xs)) : TK H H' :=
  ⟨fun b ys e => s b _ (ne_of e h (by intro z; cases z)) e, fun b o u e => s b _ (ne_of e h (by intro z; cases z)) e⟩
theorem TK.seqT {K : PySem.W.Frag} {H H' : Hp} {a : Addr} {xs : List V} (t : TK H H') (h : SqT K H a xs) : SqT K H' a xs := by
  rcases h with (h | ⟨o, h⟩) | h
  · exact .inl (.inl (t.tup _ _ h))
  · exact .inl (.inr ⟨o, t.frz _ _ _ h⟩)
  · exact .inr h
theorem TK.new {H : Hp} {p : Addr} {o : HO} (h : H p = none) : TK H (upd H p o) := Same.tk (Same.new h)
theorem TK.lst {H : Hp} {p : Addr} {xs : List V} {o : HO} (h : H p = some (.lst xs)) : TK H (upd H p o) := (KeepB.put (r := p)).tk h
theorem KeepB.new {r : Addr} {H : Hp} {p : Addr} {o : HO} (h : H p = none) : KeepB r H (upd H p o) := Same.keepB (Same.new h)
/-- a change at an object that the first heap does not know -/
theorem KeepB.fresh {r : Addr} {H H' : Hp} {p : Addr} {o : HO} (k : KeepB r H H') (h : H p = none) : KeepB r H (upd H' p o) := fun b u n e => by
  rw [upd_ne (ne_of_none e h)]
  exact k b u n e
/-- what the later heap does not know the earlier did not -/
theorem KeepB.back {r : Addr} {H H' : Hp} {p : Addr} (k : KeepB r H H') (h : H' p = none) (n : p ≠ r) : H p = none := by
  cases e : H p with
  | none => rfl
  | some o =>
    rw [k p o n e] at h
    cases h
theorem Same.fresh {H H' : Hp} {p : Addr} {o : HO} (k : Same H H') (h : H p = none) : Same H (upd H' p o) := fun b u e => by
  rw [upd_ne (ne_of_none e h)]
  exact k b u e
/-! ### immutable data -/
mutual
inductive Tp (K : PySem.W.Frag) (H : Hp) : V → PyData → Prop
  | non : Tp K H .non .none
  | bl (b : Bool) : Tp K H (.bl b) (.bool b)
  | int (i : Int) : Tp K H (.int i) (.int i)
  | str (x : Str) : Tp K H (.str x) (.str x)
  | tup {a : Addr} {xs : List V} {ds : List PyData} : SqT K H a xs → TpAll K H xs ds → Tp K H (.ref a) (.tuple ds)
inductive TpAll (K : PySem.W.Frag) (H : Hp) : List V → List PyData → Prop
  | nil : TpAll K H [] []
  | cons {v : V} {vs : List V} {d : PyData} {ds : List PyData} : Tp K H v d → TpAll K H vs ds → TpAll K H (v :: vs) (d :: ds)
end
section
variable {K : PySem.W.Frag} {H H' : Hp}
mutual
theorem Tp.mono (t : TK H H') : ∀ (d : PyData) (v : V), Tp K H v d → Tp K H' v d
  | .none, _, h => by cases h; exact .non
  | .bool b, _, h => by cases h; exact .bl b
  | .int i, _, h => by cases h; exact .int i
  | .str x, _, h => by cases h; exact .str x
  | .list ds, _, h => by cases h
  | .dict _, _, h => by cases h
  | .tuple ds, _, h => by
    cases h with
    | tup hs ha => exact .tup (t.seqT hs) (TpAll.mono t ds _ ha)
theorem TpAll.mono (t : TK H H') : ∀ (ds : List PyData) (vs : List V), TpAll K H vs ds → TpAll K H' vs ds
  | [], _, h => by cases h; exact .nil
  | d :: ds, _, h => by
    cases h with
    | cons h1 h2 => exact .cons (Tp.mono t d _ h1) (TpAll.mono t ds _ h2)
end
mutual
theorem Tp.dp : ∀ (d : PyData) (v : V), Tp K H v d → Dp K H v d
  | .none, _, h => by cases h; exact .non
  | .bool b, _, h => by cases h; exact .bl b
  | .int i, _, h => by cases h; exact .int i
  | .str x, _, h => by cases h; exact .str x
  | .list ds, _, h => by cases h
  | .dict _, _, h => by cases h
  | .tuple ds, _, h => by
    cases h with
    | tup hs ha => exact .tup hs (TpAll.dp ds _ ha)
theorem TpAll.dp : ∀ (ds : List PyData) (vs : List V), TpAll K H vs ds → DpAll K H vs ds
  | [], _, h => by cases h; exact .nil
  | d :: ds, _, h => by
    cases h with
    | cons h1 h2 => exact .cons (Tp.dp d _ h1) (TpAll.dp ds _ h2)
end
mutual
theorem Dp.mono (s : Same H H') : ∀ (d : PyData) (v : V), Dp K H v d → Dp K H' v d
  | .none, _, h => by cases h; exact .non
  | .bool b, _, h => by cases h; exact .bl b
  | .int i, _, h => by cases h; exact .int i
  | .str x, _, h => by cases h; exact .str x
  | .dict _, _, h => by cases h
  | .list ds, _, h => by
    cases h with
    | lst hs ha => exact .lst (s.seq hs) (DpAll.mono s ds _ ha)
  | .tuple ds, _, h => by
    cases h with
    | tup hs ha => exact .tup ((Same.tk s).seqT hs) (DpAll.mono s ds _ ha)
theorem DpAll.mono (s : Same H H') : ∀ (ds : List PyData) (vs : List V), DpAll K H vs ds → DpAll K H' vs ds
  | [], _, h => by cases h; exact .nil
  | d :: ds, _, h => by
    cases h with
    | cons h1 h2 => exact .cons (Dp.mono s d _ h1) (DpAll.mono s ds _ h2)
end
theorem TpAll.length : ∀ {vs : List V} {ds : List PyData}, TpAll K H vs ds → vs.length = ds.length
  | [], [], _ => rfl
  | _ :: _, [], h => by cases h
  | [], _ :: _, h => by cases h
  | v :: vs, d :: ds, h => by
    cases h with
    | cons h1 h2 =>
      show vs.length + 1 = ds.length + 1
      rw [TpAll.length h2]
theorem TpAll.get : ∀ {vs : List V} {ds : List PyData} {i : Nat} {d : PyData}, TpAll K H vs ds → ds[i]? = some d → ∃ v, vs[i]? = some v ∧ Tp K H v d
  | [], [], _, _, _, e => by simp at e
  | _ :: _, [], _, _, h, _ => by cases h
  | [], _ :: _, _, _, h, _ => by cases h
  | v :: vs, d :: ds, 0, _, h, e => by
    cases h with
    | cons h1 h2 =>
      have e : d = _ := Option.some.inj e
      subst e
      exact ⟨v, rfl, h1⟩
  | v :: vs, d :: ds, i + 1, _, h, e => by
    cases h with
    | cons h1 h2 => exact TpAll.get (i := i) h2 e
theorem TpAll.append : ∀ {vs ws : List V} {ds es : List PyData}, TpAll K H vs ds → TpAll K H ws es → TpAll K H (vs ++ ws) (ds ++ es)
  | [], _, [], _, _, h => h
  | _ :: _, _, [], _, h, _ => by cases h
  | [], _, _ :: _, _, h, _ => by cases h
  | v :: vs, _, d :: ds, _, h, h' => by
    cases h with
    | cons h1 h2 => exact .cons h1 (TpAll.append h2 h')
end
/-! ### the draws -/
/-- the script: frozen, or an object of the written part -/
def Scr (K : PySem.W.Frag) (H : Hp) (s : Addr) (ns : List Int) : Prop := (∃ o, H s = some (.frz o (.lst (ns.map V.int)))) ∨ ∃ (o : Obj) (its : Array Value) (n : Nat), K.lookup s = some o ∧ o.cls = .type "list" ∧ o.dict = none ∧ o.data = .seq its n ∧ its.size ≤ sizeLine ∧ Vals (ns.map V.int) its.toList
theorem Scr.sq {K : PySem.W.Frag} {H : Hp} {s : Addr} {ns : List Int} (h : Scr K H s ns) : SqL K H s (ns.map V.int) := by
  rcases h with ⟨o, h⟩ | h
  · exact .inl (.inr ⟨o, h⟩)
  · exact .inr h
theorem Scr.mono {K : PySem.W.Frag} {H H' : Hp} {s : Addr} {ns : List Int} (t : TK H H') (h : Scr K H s ns) : Scr K H' s ns := by
  rcases h with ⟨o, h⟩ | h
  · exact .inl ⟨o, t.frz _ _ _ h⟩
  · exact .inr h
theorem Scr.of {K : PySem.W.Frag} {H : Hp} {s : Addr} {ns : List Int} (o : Only H) (h : SqL K H s (ns.map V.int)) : Scr K H s ns := by
  rcases h with (h | ⟨u, h⟩) | h
  · rcases o s with z | ⟨u, xs, z⟩ <;> (rw [h] at z; cases z)
  · exact .inl ⟨u, h⟩
  · exact .inr h
/-- row: the script, the place in it, the mixed number, the rest of a great cell -/
def Row (K : PySem.W.Frag) (H : Hp) (r : Addr) : Prop := ∃ (s : Addr) (ns : List Int) (i m c : Int), H r = some (.lst [.ref s, .int i, .int m, .int c]) ∧ Scr K H s ns ∧ 0 ≤ i ∧ 0 ≤ m ∧ m < 2147483647 ∧ 0 ≤ c
theorem Row.lst {K : PySem.W.Frag} {H : Hp} {r : Addr} (h : Row K H r) : ∃ xs, H r = some (.lst xs) := by
  obtain ⟨s, ns, i, m, c, e, _⟩ := h
  exact ⟨_, e⟩
theorem Row.keep {K : PySem.W.Frag} {H H' : Hp} {r : Addr} (h : Row K H r) (t : TK H H') (e : H' r = H r) : Row K H' r := by
  obtain ⟨s, ns, i, m, c, e0, hs, q⟩ := h
  exact ⟨s, ns, i, m, c, e.trans e0, hs.mono t, q⟩
theorem Row.same {K : PySem.W.Frag} {H H' : Hp} {r : Addr} (h : Row K H r) (s : Same H H') : Row K H' r := by
  obtain ⟨xs, e⟩ := h.lst
  exact h.keep (Same.tk s) ((s _ _ e).trans e.symm)
theorem Row.new {K : PySem.W.Frag} {H : Hp} {r p : Addr} {o : HO} (h : Row K H r) (n : H p = none) : Row K (upd H p o) r := h.same (Same.new n)
theorem Row.ne {K : PySem.W.Frag} {H : Hp} {r p : Addr} (h : Row K H r) (n : H p = none) : p ≠ r := by
  obtain ⟨xs, e⟩ := h.lst
  exact (ne_of_none e n).symm
/-- another list changes -/
theorem Row.put {K : PySem.W.Frag} {H : Hp} {r p : Addr} {xs : List V} {o : HO} (h : Row K H r) (e : H p = some (.lst xs)) (n : p ≠ r) : Row K (upd H p o) r := h.keep (TK.lst e) (upd_ne n.symm)
theorem KeepB.row {K : PySem.W.Frag} {H H' : Hp} {r : Addr} (k : KeepB r H H') (h : Row K H r) : TK H H' := by
  obtain ⟨xs, e⟩ := h.lst
  exact k.tk e
def spTaken (K : PySem.W.Frag) : Sp := fun vs H Q _ => ∃ (r : Addr) (many : Int), vs = [.ref r, .int many] ∧ Row K H r ∧ 0 < many ∧ many < 2 ^ 250 ∧ ∀ (v : Int) (H' : Hp), 0 ≤ v → v < many → Row K H' r → KeepB r H H' → Q (.int v) H'
section
variable {X : Cx}
theorem CallR.imp {f : Value} {r r' : List V → Hp → VK → Prop} (h : CallR X f r) (i : ∀ xs H Q, r' xs H Q → r xs H Q) : CallR X f r' := fun pins s σ H xs us Q I rv q => h pins s σ H xs us Q I rv (i _ _ _ q)
theorem call_int_i : CallR X (.type "int") (fun xs H Q => ∃ i, xs = [.int i] ∧ Q (.int i) H) := CallR.imp call_int1 fun _ _ _ h => .inl h
theorem call_len_l : CallR X (.builtin "len") (fun xs H Q => ∃ p ys, xs = [.ref p] ∧ SqL X.K H p ys ∧ Q (.int ys.length) H) := CallR.imp call_len_seq fun _ _ _ ⟨p, ys, e, h, q⟩ => ⟨p, ys, e, .inl h, q⟩
theorem call_len_t : CallR X (.builtin "len") (fun xs H Q => ∃ p ys, xs = [.ref p] ∧ SqT X.K H p ys ∧ Q (.int ys.length) H) := CallR.imp call_len_seq fun _ _ _ ⟨p, ys, e, h, q⟩ => ⟨p, ys, e, .inr h, q⟩
theorem call_tuple_l : CallR X (.type "tuple") (fun xs H Q => ∃ p ys, xs = [.ref p] ∧ SqL X.K H p ys ∧ ∀ l, H l = none → Q (.ref l) (upd H l (.tup ys))) := CallR.imp call_tuple_of fun _ _ _ ⟨p, ys, e, h, q⟩ => ⟨p, ys, e, .inl ⟨h, q⟩⟩
theorem call_tuple_t : CallR X (.type "tuple") (fun xs H Q => ∃ p ys, xs = [.ref p] ∧ SqT X.K H p ys ∧ Q (.ref p) H) := CallR.imp call_tuple_of fun _ _ _ ⟨p, ys, e, h, q⟩ => ⟨p, ys, e, .inr ⟨h, q⟩⟩
end
section
variable {X : Cx} {x : Str} {pos : Pos}
theorem pe_gint {i : Int} (hg : Gl X x) (hm : ∃ t, X.mg x = some (.int i t)) (hd : (x == ("__debug__" : Str)) = false := by decide) : PE X (.Name x pos) (tC (.int i)) := by
  obtain ⟨t, h⟩ := hm
  exact pe_glob hg h ⟨t, rfl⟩ hd
theorem pe_gstr {y : Str} (hg : Gl X x) (hm : ∃ t, X.mg x = some (.str y t)) (hd : (x == ("__debug__" : Str)) = false := by decide) : PE X (.Name x pos) (tC (.str y)) := by
  obtain ⟨t, h⟩ := hm
  exact pe_glob hg h ⟨t, rfl⟩ hd
theorem pe_ty (n : String) (hg : Gl X x) (hm : X.mg x = none) (hv : bootBuiltins x = some (.type n)) (hn : x ≠ "__name__" := by decide) (hd : (x == ("__debug__" : Str)) = false := by decide) : PE X (.Name x pos) (tC (.ty n)) := pe_bltn hg hm hv rfl hn hd
/-- isinstance against a built-in class -/
def rIsN (K : PySem.W.Frag) : List V → Hp → VK → Prop := fun xs H Q => ∃ (y : V) (n : String) (t : String) (b : Bool), xs = [y, .ty n] ∧ TyX K H y (.type t) ∧ kitB t n = some b ∧ Q (.bl b) H
theorem call_isN : CallR X (.builtin "isinstance") (rIsN X.K) := CallR.imp call_isi fun _ _ _ ⟨y, n, t, b, e, h, k, q⟩ => ⟨y, .ty n, .type t, .type n, b, e, .ty n, h, kit_ty k, q⟩
/-- against two of them -/
def kitB2 (t m n : String) : Option Bool := match kitB t m with
  | some true => some true
  | some false => kitB t n
  | none => none
def rIsT2 (K : PySem.W.Frag) : List V → Hp → VK → Prop := fun xs H Q => ∃ (y : V) (p : Addr) (m n : String) (t : String) (b : Bool), xs = [y, .ref p] ∧ H p = some (.tup [.ty m, .ty n]) ∧ TyX K H y (.type t) ∧ kitB2 t m n = some b ∧ Q (.bl b) H
theorem kit2 {K : PySem.W.Frag} {t m n : String} {b : Bool} (h : kitB2 t m n = some b) : PySem.W.kitAny K (.type t) [.type m, .type n] = some b := by
  unfold kitB2 at h
  split at h
  · rename_i e
    cases h
    exact kitAny_cons (kit_ty e) (fun z => by cases z) (fun _ => rfl)
  · rename_i e
    refine kitAny_cons (kit_ty e) (fun _ => ?_) (fun z => by cases z)
    exact kitAny_cons (b := b) (kit_ty h) (fun z => by rw [z]; exact kitAny_nil) (fun z => z)
  · cases h
theorem call_isT2 : CallR X (.builtin "isinstance") (rIsT2 X.K) := CallR.imp call_isiT fun _ _ _ ⟨y, p, m, n, t, b, e, hp, h, k, q⟩ => ⟨y, p, [.ty m, .ty n], .type t, [.type m, .type n], b, e, hp, .cons (.ty m) (.cons (.ty n) .nil), h, kit2 k, q⟩
/-- s.index(c), where it is found -/
def rIndexIn : L2.St → V → List V → Hp → VK → Prop := fun _ x xs H Q => ∃ (a b : Str) (k : Nat), x = .str a ∧ xs = [.str b] ∧ Txt.index0 a b = some k ∧ Q (.int (k : Nat)) H
theorem mt_indexIn (hc : X.calm = true) : MtS X "str.index" rIndexIn := fun pins s σ H x xs v us Q I rx rs ⟨a, b, k, e1, e2, e3, q⟩ =>
  mt_indexX hc takes0 pins s σ H x xs v us Q I rx rs ⟨a, b, e1, e2, fun k' h => by rw [e3] at h; cases h; exact q, fun h => by rw [e3] at h; cases h⟩
end
section
variable {K : PySem.W.Frag} {H : Hp}
theorem tyx_tup {a : Addr} {xs : List V} (h : SqT K H a xs) : TyX K H (.ref a) (.type "tuple") := by
  rcases h with (h | ⟨o, h⟩) | ⟨o, its, n, e, c, _⟩
  · exact .base (.tup h)
  · exact .fTuple h
  · exact .kTuple e c
theorem tyx_lst {a : Addr} {xs : List V} (h : SqL K H a xs) : TyX K H (.ref a) (.type "list") := by
  rcases h with (h | ⟨o, h⟩) | ⟨o, its, n, e, c, _⟩
  · exact .base (.lst h)
  · exact .base (.frz h)
  · exact .kList e c
theorem Tp.tupI {v : V} {ds : List PyData} (h : Tp K H v (.tuple ds)) : ∃ (a : Addr) (xs : List V), v = .ref a ∧ SqT K H a xs ∧ TpAll K H xs ds := by
  cases h with
  | tup hs ha => exact ⟨_, _, rfl, hs, ha⟩
theorem Tp.intI {v : V} {i : Int} (h : Tp K H v (.int i)) : v = .int i := by cases h; rfl
theorem Tp.nonI {v : V} (h : Tp K H v .none) : v = .non := by cases h; rfl
theorem Tp.strI {v : V} {x : Str} (h : Tp K H v (.str x)) : v = .str x := by cases h; rfl
theorem Tp.blI {v : V} {b : Bool} (h : Tp K H v (.bool b)) : v = .bl b := by cases h; rfl
theorem TpAll.consI {vs : List V} {d : PyData} {ds : List PyData} (h : TpAll K H vs (d :: ds)) : ∃ v ws, vs = v :: ws ∧ Tp K H v d ∧ TpAll K H ws ds := by
  cases h with
  | cons h1 h2 => exact ⟨_, _, rfl, h1, h2⟩
theorem TpAll.nilI {vs : List V} (h : TpAll K H vs []) : vs = [] := by cases h; rfl
/-- three numbers -/
theorem Tp.int3 {v : V} {i j k : Int} (h : Tp K H v (.tuple [.int i, .int j, .int k])) : ∃ a, v = .ref a ∧ SqT K H a [.int i, .int j, .int k] := by
  obtain ⟨a, xs, rfl, hs, h⟩ := h.tupI
  obtain ⟨x, _, rfl, h1, h⟩ := h.consI
  obtain ⟨y, _, rfl, h2, h⟩ := h.consI
  obtain ⟨z, _, rfl, h3, h⟩ := h.consI
  rw [h1.intI, h2.intI, h3.intI, h.nilI] at hs
  exact ⟨a, rfl, hs⟩
end
theorem at0 {α : Type} {v : α} {r : List α} : atI (v :: r) (0 : Int) = some v := atI_nat (j := 0) rfl
theorem at1 {α : Type} {u v : α} {r : List α} : atI (u :: v :: r) (1 : Int) = some v := atI_nat (j := 1) rfl
theorem at2 {α : Type} {t u v : α} {r : List α} : atI (t :: u :: v :: r) (2 : Int) = some v := atI_nat (j := 2) rfl
theorem at3 {α : Type} {s t u v : α} {r : List α} : atI (s :: t :: u :: v :: r) (3 : Int) = some v := atI_nat (j := 3) rfl
theorem small_le {n : Nat} (h : n ≤ 1000) : n ≤ sizeLine := Nat.le_of_lt (small1000 h)
/-! ### answers read -/
theorem ne_tr {a b : Int} (h : (!decide (V.int a = V.int b)) = true) : a ≠ b := fun e => by
  rw [e, decide_eq_true rfl] at h
  cases h
theorem ne_fl {a b : Int} (h : ¬ (!decide (V.int a = V.int b)) = true) : a = b := by
  by_cases e : a = b
  · exact e
  · exact absurd (by rw [decide_eq_false (fun z => e (V.int.inj z))]; rfl) h
theorem eq_tr {a b : Int} (h : decide (V.int a = V.int b) = true) : a = b := V.int.inj (of_decide_eq_true h)
theorem eq_fl {a b : Int} (h : ¬ decide (V.int a = V.int b) = true) : a ≠ b := fun e => h (decide_eq_true (by rw [e]))
theorem d_fl {p : Prop} [Decidable p] (h : ¬ decide p = true) : ¬ p := fun q => h (decide_eq_true q)
theorem nd_tr {p : Prop} [Decidable p] (h : (!decide p) = true) : ¬ p := fun q => by
  rw [decide_eq_true q] at h
  cases h
theorem nd_fl {p : Prop} [Decidable p] (h : ¬ (!decide p) = true) : p := by
  by_cases e : p
  · exact e
  · exact absurd (by rw [decide_eq_false e]; rfl) h
theorem nb_tr {b : Bool} (h : (!b) = true) : b = false := by cases b <;> simp_all
theorem nb_fl {b : Bool} (h : ¬ (!b) = true) : b = true := by cases b <;> simp_all
theorem take_more {α : Type} {l : List α} {i : Nat} {x : α} (h : l[i]? = some x) : l.take (i + 1) = l.take i ++ [x] := by
  rw [List.take_add_one, h]
  rfl
/-! ### the rules that speak of the written part, with its letter -/
section
variable {X : Cx} {K : PySem.W.Frag}
theorem k_len_l (hK : X.K = K := by rfl) : CallR X (.builtin "len") (fun xs H Q => ∃ p ys, xs = [.ref p] ∧ SqL K H p ys ∧ Q (.int ys.length) H) := hK ▸ call_len_l
theorem k_len_t (hK : X.K = K := by rfl) : CallR X (.builtin "len") (fun xs H Q => ∃ p ys, xs = [.ref p] ∧ SqT K H p ys ∧ Q (.int ys.length) H) := hK ▸ call_len_t
theorem k_tuple_l (hK : X.K = K := by rfl) : CallR X (.type "tuple") (fun xs H Q => ∃ p ys, xs = [.ref p] ∧ SqL K H p ys ∧ ∀ l, H l = none → Q (.ref l) (upd H l (.tup ys))) := hK ▸ call_tuple_l
theorem k_tuple_t (hK : X.K = K := by rfl) : CallR X (.type "tuple") (fun xs H Q => ∃ p ys, xs = [.ref p] ∧ SqT K H p ys ∧ Q (.ref p) H) := hK ▸ call_tuple_t
theorem k_isN (hK : X.K = K := by rfl) : CallR X (.builtin "isinstance") (rIsN K) := hK ▸ call_isN
theorem k_isT2 (hK : X.K = K := by rfl) : CallR X (.builtin "isinstance") (rIsT2 K) := hK ▸ call_isT2
theorem k_all (hc : X.calm = true) (hK : X.K = K := by rfl) : CallR X (.builtin "all") (rAll K) := hK ▸ cr_all hc
theorem k_any (hc : X.calm = true) (hK : X.K = K := by rfl) : CallR X (.builtin "any") (rAny K) := hK ▸ cr_any hc
theorem k_sum (hc : X.calm = true) (hK : X.K = K := by rfl) : CallR X (.builtin "sum") (rSum K) := hK ▸ cr_sum hc
theorem k_max (hc : X.calm = true) (hK : X.K = K := by rfl) : CallR X (.builtin "max") (rMax K) := hK ▸ cr_max hc
theorem k_min (hc : X.calm = true) (hK : X.K = K := by rfl) : CallR X (.builtin "min") (rMin K) := hK ▸ cr_min hc
theorem k_ix_list (hK : X.K = K := by rfl) : IxR X (rIxL K) := hK ▸ ix_list
theorem k_ix_tup (hK : X.K = K := by rfl) : IxR X (rIxT K) := hK ▸ ix_tup
theorem k_len_seq (hK : X.K = K := by rfl) : CallR X (.builtin "len") (fun xs H Q => ∃ p ys, xs = [.ref p] ∧ (SqL K H p ys ∨ SqT K H p ys) ∧ Q (.int ys.length) H) := hK ▸ call_len_seq
theorem IxR.imp {r r' : R2} (h : IxR X r) (i : ∀ x y H Q, r' x y H Q → r x y H Q) : IxR X r' := fun a b pins s σ H x y v u Q I rx ry q e => h a b pins s σ H x y v u Q I rx ry (i _ _ _ _ q) e
/-- an item of a list or of a tuple -/
def rIxA (K : PySem.W.Frag) : R2 := fun x y H Q => ∃ p xs i v, x = .ref p ∧ y = .int i ∧ (SqL K H p xs ∨ SqT K H p xs) ∧ atI xs i = some v ∧ Q v H
theorem k_ix_seq (hK : X.K = K := by rfl) : IxR X (rIxA K) := hK ▸ IxR.imp ix_seq fun x y H Q ⟨p, xs, i, v, e1, e2, h, a, q⟩ => by
  rcases h with h | h
  · exact .inl ⟨p, xs, i, v, e1, e2, h, a, q⟩
  · exact .inr (.inl ⟨p, xs, i, v, e1, e2, h, a, q⟩)
theorem k_sl_list (hK : X.K = K := by rfl) : SlR X (rSlL K) := hK ▸ sl_list
theorem k_sl_tup (hK : X.K = K := by rfl) : SlR X (rSlT K) := hK ▸ sl_tup
theorem k_catA (hK : X.K = K := by rfl) : OpR X (binaryOp .Add) (rCatA K) := hK ▸ op_catA
theorem k_eqD (hu : X.A.units + 64 < cLine) (hK : X.K = K := by rfl) : OpR X (compareOp .Eq) (rEqD K) := hK ▸ op_eqD hu
theorem k_neD (hu : X.A.units + 64 < cLine) (hK : X.K = K := by rfl) : OpR X (compareOp .NotEq) (rNeD K) := hK ▸ op_neD hu
theorem k_pi_list {tg l : Expr} {tl : TE} (hl : PE X l tl) (hK : X.K = K := by rfl) : PI X tg l (iList K tl) := hK ▸ pi_list hl
theorem k_pi_tup {tg l : Expr} {tl : TE} (hl : PE X l tl) (hK : X.K = K := by rfl) : PI X tg l (iTup K tl) := hK ▸ pi_tup hl
theorem k_mt_join (hK : X.K = K := by rfl) : MtR X "str.join" (fun x xs H Q => ∃ a p, ∃ ys : List Str, x = .str a ∧ xs = [.ref p] ∧ (SqL K H p (ys.map V.str) ∨ SqT K H p (ys.map V.str)) ∧ (ys.map (·.length)).sum + ys.length * a.length ≤ 16777216 ∧ Q (.str (Txt.join a ys)) H) := hK ▸ mt_join
end
/-! ### own errors -/
/-- what the written part says of an error's class -/
structure ExcCls (K : PySem.W.Frag) (mg : Str → Option Value) (x : Str) (C : Addr) : Prop where
  gC : mg x = some (.ref C)
  oex : OexC K C
  xf : XfC K C
  ha : PySem.W.findIn K (.ref C) "__class__" = some (some (.builtin "object.__class__"))
  hn : PySem.W.specialIn K (.builtin "object.__class__") "__get__" = some (some (.builtin "getset_descriptor.__get__"))
  ht : PySem.W.takesIn K (.builtin "object.__class__") = some true
  hm : PySem.W.mroIn K C (.type "object") = some true
/-- the error's own dict -/
def DOk (d : Option Addr) (H : Hp) : Prop := d = none ∨ ∃ dd fs, d = some dd ∧ H dd = some (.xd fs)
section
variable {X : Cx} {a : Addr} {oe : Obj} {cls : Value} {d : Option Addr} {pn : List (Addr × Obj)}
def rIsEd (K : PySem.W.Frag) (mg : Str → Option Value) (a : Addr) (cls : Value) (d : Option Addr) : List V → Hp → VK → Prop := fun xs H Q => ∃ (C D : Addr) (x : Str) (b : Bool), xs = [.ref a, .ref D] ∧ cls = .ref C ∧ ExcCls K mg x C ∧ DOk d H ∧ PySem.W.kitOne K (.ref C) (.ref D) = some b ∧ Q (.bl b) H
theorem oex_cls {K : PySem.W.Frag} {C : Addr} (T : OexC K C) : (PySem.W.clsIn K C).isSome = true := by
  obtain ⟨nm, q, N, bs, bm, sn, sub, ab, col, dd, k0, k1, k2, k3, k5, hC, hbm⟩ := T.cls
  unfold PySem.W.clsIn
  rw [hC] <;> rfl
theorem inst_exc {pins : List (Addr × Obj)} {σ : L2.St} {H : Hp} {s : Shared} {C : Addr} (I : Inv (X.suite a ((a, oe) :: pn)) pins σ H s) (hz : Zc (.ref C) d oe) (hf : ∃ vs, oe.data = .fields vs) (hd : DOk d H) : ∃ od, PySem.W.InstAt s.heap a oe C od := by
  obtain ⟨hget, _⟩ := I.pin (a, oe) (List.mem_append_left _ List.mem_cons_self)
  obtain ⟨vs, hv⟩ := hf
  rcases hd with rfl | ⟨dd, fs, rfl, ea⟩
  · exact ⟨none, hget, hz.1, by unfold PySem.W.notCls; rw [hv] <;> rfl, by rw [hz.2]; trivial⟩
  · have hx : ObjOk X.prog X.w H s.heap dd (.xd fs) := I.hok dd _ ea
    obtain ⟨mA, hns, hr⟩ := hx
    obtain ⟨od, ho, hl⟩ := lookIn_ns hns
    exact ⟨some od, hget, hz.1, by unfold PySem.W.notCls; rw [hv] <;> rfl, by rw [hz.2]; exact ho⟩
theorem call_isEd (hz : Zc cls d oe) (hf : ∃ vs, oe.data = .fields vs) : CallR (X.suite a ((a, oe) :: pn)) (.builtin "isinstance") (rIsEd X.K X.mg a cls d) := by
  intro pins s σ H xs us Q I r h
  obtain ⟨C, D, x, b, rfl, rfl, T, hd, e, q⟩ := h
  obtain ⟨od, J⟩ := inst_exc I hz hf hd
  cases r with
  | cons rx rr =>
    cases rr with
    | cons rt rr =>
      cases rr
      cases rx
      cases rt
      exact PySem.W.kia_one (PySem.W.kitx_exc (oex_cls T.oex) T.xf.ga T.xf.gg T.xf.exC T.ha T.hn T.ht T.hm) I.kIn J e (fun z => nomatch z) fun tk => ⟨.bl b, H, I.tok tk, rfl, q⟩
end
/-! ### an error with one field, made by its __init__ -/
def spInit1 (K : PySem.W.Frag) (C : Addr) (f : Str) : Sp := fun vs H Q _ => ∃ (a : Addr) (y : V), vs = [.ref a, y] ∧ H a = some (exo a C none) ∧ ∀ dx, H dx = none → dx ≠ a → Q .non (upd (upd H dx (exd dx [(f, y)])) a (exo a C (some dx)))
/-- the __init__ of the class at C stands -/
structure ExcInit1 (P : Program) (w : World) (K : PySem.W.Frag) (mg : Str → Option Value) (base : Heap) (C : Addr) (f : Str) : Prop where
  no : PySem.W.findIn K (.ref C) f = some none
  init : ∃ (fI : Addr) (fd : FuncData) (ps : List Str), PySem.W.findIn K (.ref C) "__init__" = some (some (.ref fI)) ∧ PySem.W.typeIn K (.ref fI) = some (.type "function") ∧ FnOk P w K mg base CX0 1 fI fd ps (spInit1 K C f) ∧ Binds K fd ps []
theorem raise1 {K : PySem.W.Frag} {C : Addr} {f : Str} {H1 : Hp} {y : V} {Q : XK} (q : ∀ d H', H1 d = none → Same H1 H' → H' d = some (.xd [(f, y)]) → Q (.ref C) (some d) H') :
    ∀ a, H1 a = none → spInit1 K C f (.ref a :: ([y] ++ [])) (upd H1 a (exo a C none)) (fun v H2 => v = .non ∧ ∃ (d : Addr) (fs : List (Str × V)), H2 a = some (exo a C (some d)) ∧ H2 d = some (exd d fs) ∧ H1 d = none ∧ Q (.ref C) (some d) (upd (del H2 a) d (.xd fs))) (fun _ _ _ => False) := fun a na => by
  refine ⟨a, y, rfl, upd_same, fun dx nx ne => ⟨rfl, dx, [(f, y)], upd_same, ?_, ?_, ?_⟩⟩
  · rw [upd_ne ne, upd_same]
  · rw [upd_ne ne] at nx
    exact nx
  · have nx1 : H1 dx = none := by
      rw [upd_ne ne] at nx
      exact nx
    refine q dx _ nx1 (fun b o hb => ?_) upd_same
    have h1 : b ≠ dx := ne_of_none hb nx1
    have h2 : b ≠ a := ne_of_none hb na
    rw [upd_ne h1, del_ne h2, upd_ne h2, upd_ne h1, upd_ne h2]
    exact hb
section
variable {X : Cx} {C : Addr} {f x : Str} {W : WX} {ta : TA} {e : Expr} {p pos pos2 : Pos} {k : Nat}
theorem ps_raise1 (hc : X.calm = true) (tk : Takes X W) (T : ExcCls X.K X.mg x C) (F : ExcInit1 X.prog X.w X.K X.mg X.base C f) (hr : Room k X.A) (hk : 2 ≤ k) (ha : PA X [e] ta) (hg : Gl X x := by rfl) (hdb : (x == ("__debug__" : Str)) = false := by decide)
    (he : starEach (e :: []) X.env = (false, eval e X.env) :: starEach [] X.env := by rfl) (hpl : (backTo pos (starEach [] X.env)).any (·.1) = false := by rfl) :
    PS X (.Raise (some (.Call (.Name x p) [e] [] pos)) none pos2) (fun _ σ H => tMkO C (spInit1 X.K C f) [] ta σ H fun cls d H' => W cls d σ H') := by
  obtain ⟨fI, fd, ps, iC, tI, F1, hb⟩ := F.init
  exact ps_raise hc tk (pmk_oex (dvs := []) T.oex iC tI F1 (hr.mono hk) hb .nil pass0 hg T.gC ha hdb he hpl)
end
/-! ### defs that may raise -/
section
variable {P : Program} {w : World} {K : PySem.W.Frag} {mg : Str → Option Value} {base : Heap}
theorem DefAt.calX {x : Str} {st : Stmt} {N ps : List Str} {k : Nat} {sp : Sp} (D : DefAt K mg x st ps) (S : FnScope N ps (defScope st)) (len : ∀ vs H Q E, sp vs H Q E → vs.length = ps.length)
    (hbody : ∀ (f : Addr) (cdv : Value) (A : Around) (outer : List Env) (s : Shared) (H : Hp) (vs : List V) (Q : VK) (E : XK), Room k (A.deeper (envOfC x (defScope st) s.heap.objs.size f cdv)) → sp vs H Q E →
      ∃ t, PSs (cxOf (L2.CX P w) P w K mg base N x (defScope st) f cdv A outer s H E) (defBody st) t ∧ t { nx := fun _ H' => Q .non H', rt := Q } (start N vs) H) : Cal P w K mg base (L2.CX P w) x (k + 1) ps sp := by
  obtain ⟨f, fd, F, m, b⟩ := D.ex
  exact ⟨f, fd, F.okX S len (hbody f), m, F.kp, b⟩
end
section
variable {X : Cx} {k j : Nat} {ps : List Str} {sp : Sp} {x : Str} {p pos : Pos} {e : Expr} {es : List Expr} {t : TA} {W : WX}
/-- a call of a def that may raise: what it lets out is wished for here -/
theorem pe_ownS (C : Cal X.prog X.w X.K X.mg X.base (L2.CX X.prog X.w) x k ps sp) (tk : Takes X W) (hr : Room j X.A) (hk : k ≤ j) (ha : PA X (e :: es) t) (hg : Gl X x := by rfl) (hdb : (x == ("__debug__" : Str)) = false := by decide)
    (he : starEach (e :: es) X.env = (false, eval e X.env) :: starEach es X.env := by rfl) (hpl : (backTo pos (starEach es X.env)).any (·.1) = false := by rfl) : PE X (.Call (.Name x p) (e :: es) [] pos) (tCallS sp (WE W) t) := by
  obtain ⟨f, fd, F, m, kp, b⟩ := C.ex
  exact pe_callS F (hr.mono hk) hg m kp b (fun σ => passAt tk σ) ha hdb he hpl
end
section
variable {X : Cx} {k j : Nat} {ps : List Str} {sp : Sp} {x : Str} {p pos : Pos} {e : Expr} {es : List Expr} {t : TA}
/-- a call of such a def where it raises nothing -/
theorem pe_ownL (C : Cal X.prog X.w X.K X.mg X.base (L2.CX X.prog X.w) x k ps sp) (hr : Room j X.A) (hk : k ≤ j) (ha : PA X (e :: es) t) (hg : Gl X x := by rfl) (hdb : (x == ("__debug__" : Str)) = false := by decide)
    (he : starEach (e :: es) X.env = (false, eval e X.env) :: starEach es X.env := by rfl) (hpl : (backTo pos (starEach es X.env)).any (·.1) = false := by rfl) : PE X (.Call (.Name x p) (e :: es) [] pos) (tCall sp [] E0 t) := by
  obtain ⟨f, fd, F, m, kp, b⟩ := C.ex
  exact pe_call F (hr.mono hk) hg m kp b .nil passL ha hdb he hpl
end
/-! ### one step at a time -/
theorem asg_lst {t : TA} {g : TG} {D : Ends} {σ : L2.St} {H : Hp} (h : t σ H (fun xs H1 => xs.length ≤ sizeLine ∧ ∀ p, H1 p = none → g (.ref p) σ (upd H1 p (.lst xs)) D.nx)) : tAsg (tLst t) g D σ H := h
theorem asg_op {r : R2} {i : Nat} {v : V} {t : TA} {g : TG} {D : Ends} {σ : L2.St} {H : Hp} (e : σ[i]? = some (some v)) (h : t σ H (fun xs H1 => xs.length ≤ sizeLine ∧ ∀ p, H1 p = none → r v (.ref p) (upd H1 p (.lst xs)) fun z H3 => g z σ H3 D.nx)) : tAsg (tOp r (tVar i) (tLst t)) g D σ H := ⟨v, e, h⟩
theorem seq_of {t u : TS} {D : Ends} {σ : L2.St} {H : Hp} (h : t { D with nx := u D } σ H) : tSeq t u D σ H := h
theorem next_of {D : Ends} {σ : L2.St} {H : Hp} (h : D.nx σ H) : tNext D σ H := h
theorem if_not {A B : Prop} (h : B) : if (!true) = true then A else B := h
/-! ### lists of pairs, a text and a number -/
/-- an expression that gives the text s, laying things at most -/
def Evs (ta : TE) (s : Str) : Prop := ∀ σ H (Q : VK), (∀ H', Same H H' → Q (.str s) H') → ta σ H Q
theorem evs_c {s : Str} : Evs (tC (.str s)) s := fun σ H Q q => q H (Same.refl H)
def tPairs : List (TE × V) → TA
  | [] => tNil
  | p :: r => tCons (tTup (tCons p.1 (tCons (tC p.2) tNil))) (tPairs r)
abbrev PairsAt (H : Hp) : List Addr → List (Str × V) → Prop := Paired fun a q => H a = some (.tup [.str q.1, q.2])
theorem PairsAt.same {H H' : Hp} (s : Same H H') : ∀ {as : List Addr} {qs : List (Str × V)}, PairsAt H as qs → PairsAt H' as qs
  | _, _, .nil => .nil
  | _, _, .cons h r => .cons (s _ _ h) (PairsAt.same s r)
theorem PairsAt.app {H : Hp} : ∀ {as bs : List Addr} {qs rs : List (Str × V)}, PairsAt H as qs → PairsAt H bs rs → PairsAt H (as ++ bs) (qs ++ rs)
  | _, _, _, _, .nil, h => h
  | _, _, _, _, .cons h r, h' => .cons h (PairsAt.app r h')
theorem PairsAt.get {H : Hp} : ∀ {as : List Addr} {qs : List (Str × V)} {i : Nat} {a : Addr}, PairsAt H as qs → as[i]? = some a → ∃ q, qs[i]? = some q ∧ H a = some (.tup [.str q.1, q.2])
  | _, _, _, _, .nil, e => by simp at e
  | _, _, 0, _, .cons h r, e => by
    have e := Option.some.inj e
    subst e
    exact ⟨_, rfl, h⟩
  | _, _, i + 1, _, .cons h r, e => PairsAt.get (i := i) r e
theorem pairs_run : ∀ {ps : List (TE × V)} {qs : List (Str × V)}, Paired (fun p q => Evs p.1 q.1 ∧ p.2 = q.2) ps qs → ∀ (σ : L2.St) (H : Hp) (Q : List V → Hp → Prop), (∀ as H', Same H H' → PairsAt H' as qs → Q (as.map V.ref) H') → tPairs ps σ H Q
  | _, _, .nil, σ, H, Q, q => q [] H (Same.refl H) .nil
  | _, _, @Paired.cons _ _ _ p w ps qs h r, σ, H, Q, q => by
    obtain ⟨h1, h2⟩ := h
    refine h1 σ H _ fun H1 s1 => ?_
    refine ⟨Nat.le_of_ble_eq_true rfl, fun a na => ?_⟩
    refine pairs_run r σ _ _ fun as H2 s2 hp => ?_
    refine q (a :: as) H2 (Same.trans (Same.trans s1 (Same.new na)) s2) (.cons ?_ hp)
    rw [← h2]
    exact s2 _ _ upd_same
theorem rows_first {ps : List (TE × V)} {qs : List (Str × V)} {i : Nat} {D : Ends} {σ : L2.St} {H : Hp} (hp : Paired (fun p q => Evs p.1 q.1 ∧ p.2 = q.2) ps qs) (hl : qs.length ≤ 1000)
    (k : ∀ (as : List Addr) (R : Addr) (H' : Hp), Same H H' → PairsAt H' as qs → H' R = some (.lst (as.map V.ref)) → as.length = qs.length → D.nx (σ.set i (some (.ref R))) H') : tAsg (tLst (tPairs ps)) (gName i) D σ H := by
  refine pairs_run hp σ H _ fun as H1 s1 pa => ?_
  have la : as.length = qs.length := Paired.length pa
  refine ⟨small_le (by rw [List.length_map]; omega), fun R nR => ?_⟩
  exact k as R _ (Same.trans s1 (Same.new nR)) (PairsAt.same (Same.new nR) pa) upd_same la
theorem rows_step {ps : List (TE × V)} {qs qs' : List (Str × V)} {i : Nat} {D : Ends} {σ : L2.St} {H : Hp} {R : Addr} {as : List Addr} (hp : Paired (fun p q => Evs p.1 q.1 ∧ p.2 = q.2) ps qs') (hR : H R = some (.lst (as.map V.ref))) (pa : PairsAt H as qs)
    (hs : σ[i]? = some (some (.ref R))) (hl : as.length + qs'.length ≤ 1000)
    (k : ∀ (as' : List Addr) (R' : Addr) (H' : Hp), Same H H' → PairsAt H' as' (qs ++ qs') → H' R' = some (.lst (as'.map V.ref)) → as'.length = as.length + qs'.length → D.nx (σ.set i (some (.ref R'))) H') : tAsg (tOp rCat (tVar i) (tLst (tPairs ps))) (gName i) D σ H := by
  refine ⟨_, hs, pairs_run hp σ H _ fun bs H1 s1 pb => ?_⟩
  have lb : bs.length = qs'.length := Paired.length pb
  refine ⟨small_le (by rw [List.length_map]; omega), fun B nB => ?_⟩
  refine ⟨R, B, as.map V.ref, bs.map V.ref, rfl, rfl, Same.new nB _ _ (s1 _ _ hR), upd_same, small_le (by rw [List.length_map, List.length_map]; omega), fun R' nR' => ?_⟩
  have s2 : Same H1 (upd (upd H1 B (.lst (bs.map V.ref))) R' (.lst (as.map V.ref ++ bs.map V.ref))) := Same.trans (Same.new nB) (Same.new nR')
  refine k (as ++ bs) R' _ (Same.trans s1 s2) (PairsAt.app (PairsAt.same (Same.trans s1 s2) pa) (PairsAt.same s2 pb)) (by rw [upd_same, List.map_append]) (by rw [List.length_append, lb])
/-! ### __init__: self.f = f -/
/-- the class's __init__, as it stands -/
structure MetAt (K : PySem.W.Frag) (C : Addr) (m qual : Str) (st : Stmt) (ps : List Str) : Prop where
  ex : ∃ (f : Addr) (fd : FuncData), PySem.W.findIn K (.ref C) m = some (some (.ref f)) ∧ PySem.W.typeIn K (.ref f) = some (.type "function") ∧ Fun K m qual st f fd ∧ Binds K fd ps []
/-! ### enumerate over a tuple -/
theorem enNewB {v : Value} {ob : Obj} {Hh : Heap → Prop} (B : Begins v ob Hh) :
    Meets (Builtin.«enumerate.__new__» ⟨[.type "enumerate", v], []⟩) (fun _ R z => Hh z.heap ∧
      R (.ok (.ret (.ref (z.heap.push ob).objs.size))) { z with heap := (z.heap.push ob).push { cls := .type "enumerate", data := .fields #[.none, .bool false, .ref z.heap.objs.size, rawInt 0, .none, .none] } }) :=
  .of_wp fun prog w A R z hz => by
    obtain ⟨hp, gs, dr, tk, os⟩ := z
    obtain ⟨hB, fin⟩ := hz
    have hsub := sub_enumerate
    have begin1 : ∀ {A' : Around} {E : Value → Shared → Prop} {Q : Value → Shared → Prop}, Q (.ref hp.objs.size) ⟨hp.push ob, gs, dr, tk, os⟩ → wpAny (model prog w) A' (pyIter v) Q E ⟨hp, gs, dr, tk, os⟩ :=
      fun q => B.iter prog w _ _ ⟨hp, gs, dr, tk, os⟩ _ hB q
    wp_walk using begin1
    refine wpAny_stack_any fun _ => wpAny_pure ?_
    split
    · rename_i c _ _ _ _ _
      cases (c == Value.type "enumerate") <;> (wp_walk using begin1; exact ⟨_, rfl, fin⟩)
    · wp_walk using begin1
      exact ⟨_, rfl, fin⟩
theorem enCallB {prog : Program} {w : World} {A : Around} {E : Value → Shared → Prop} {z : Shared} {v : Value} {ob : Obj} {Hh : Heap → Prop} {Q : Value → Shared → Prop} (B : Begins v ob Hh) (hB : Hh z.heap)
    (fin : ∀ h', IsEnum h' (z.heap.objs.size + 1) z.heap.objs.size 0 .none → h'.get? z.heap.objs.size = some ob →
      (∀ b o, z.heap.get? b = some o → h'.get? b = some o) → Q (.ref (z.heap.objs.size + 1)) { z with heap := h' }) :
    wpAny (model prog w) A (call (.type "enumerate") [v]) Q E z := by
  refine callType_new F.called_enumerate (by decide) (F.typeCall_enumerate_1 _) (F.newCall_enumerate_1 _) (fun obj => F.args_object_init_2 obj _) F.entry_enumerate_new (enNewB B) ⟨hB, ?_⟩
  have sz : (z.heap.push ob).objs.size = z.heap.objs.size + 1 := Heap.size_push ..
  have top := Heap.get?_push_size (z.heap.push ob) (o := { cls := .type "enumerate", data := .fields #[.none, .bool false, .ref z.heap.objs.size, rawInt 0, .none, .none] }) rfl
  rw [sz] at top
  show _ ∧ _
  rw [sz]
  exact ⟨⟨_, top, rfl⟩, fin _ top (Heap.get?_push_of_some _ (Heap.get?_push_size _ B.free)) fun b o x => Heap.get?_push_of_some _ (Heap.get?_push_of_some _ x)⟩

/-- the tuple at a, each item with its count in a pair of its own -/
def ItEn (K : PySem.W.Frag) (a : Addr) : It where
  go i H := ∃ (xs : List V) (x : V), SqT K H a xs ∧ xs[i]? = some x
  yld i H v H' := ∃ T x, v = .ref T ∧ H T = none ∧ H' = upd H T (.tup [.int (i : Nat), x]) ∧ ∀ xs, SqT K H a xs → xs[i]? = some x
  stop i H := ∃ xs : List V, SqT K H a xs ∧ xs.length ≤ i
theorem turnEn {P : Program} {w : World} {K : PySem.W.Frag} {elts : List Expr} {kk : Nat} {tpos : Pos} (a e it : Addr) :
    Turn P w K (.Tuple elts kk tpos) (ItEn K a) [e, it] e (fun i h => (∃ old, IsEnum h e it ((i : Nat) : Int) old) ∧ h.IsTupleIter it a i ∧ e ≠ it) where
  mem := List.mem_cons_self
  obj i h st b hb := by
    obtain ⟨⟨old, he⟩, ⟨o, ho, hc, hd⟩, _⟩ := st
    rcases List.mem_cons.mp hb with rfl | hb
    · exact ⟨_, he, fun v q => nomatch q⟩
    · cases List.mem_singleton.mp hb
      exact ⟨o, ho, fun v q => by rw [hd] at q; cases q⟩
  keep i h h' st k := by
    obtain ⟨⟨old, he⟩, hi, hne⟩ := st
    exact ⟨⟨old, k e List.mem_cons_self _ he⟩, hi.at fun o q => k it (List.mem_cons_of_mem _ List.mem_cons_self) o q, hne⟩
  item := by
    intro X hP hw hK hc i pins s σ H E I hf st hg
    subst hP hw hK
    obtain ⟨⟨old, he⟩, hit, hne⟩ := st
    obtain ⟨xs, x, hq, hx⟩ := hg
    obtain ⟨its, rv, p, hz⟩ := I.tuple hq
    obtain ⟨u, hu, ru⟩ := rv.get hx
    have ht : s.heap.IsTuple a its.toArray := p
    have tof : it ∈ [e, it] := List.mem_cons_of_mem _ List.mem_cons_self
    have le : e < s.heap.objs.size := Heap.lt_size he
    have li : it < s.heap.objs.size := by obtain ⟨_, q, _⟩ := hit; exact Heap.lt_size q
    have ane : a ≠ it := fun z => by
      obtain ⟨o1, g1, c1, _⟩ := hit
      obtain ⟨o2, g2, c2, _⟩ := ht
      rw [z, g1] at g2
      cases g2
      rw [c1] at c2
      exact absurd c2 (by decide)
    have ane2 : a ≠ e := fun z => by
      obtain ⟨o2, g2, c2, _⟩ := ht
      rw [z, he] at g2
      cases g2
      exact absurd (show Value.type "enumerate" = Value.type "tuple" from c2) (by decide)
    have D := Draws.tuple (prog := X.prog) (w := X.w) (A := X.A.in1) (I.ok.hd hc) it a ane its.toArray
    have hlt : i < its.toArray.size := by
      rw [List.size_toArray]
      exact (List.getElem?_eq_some_iff.mp hu).1
    refine wpAny_pyNext_enum_itemD D he ⟨hit, ht⟩ hlt hne (fun z => ?_) fun u2 h' tk hP ho st' hT hsz hk => ?_
    · rcases List.mem_cons.mp z with z | z
      · exact hne z
      · exact ane2 (List.mem_singleton.mp z).symm
    have eu : u2 = u := by
      have q : its.toArray[i]? = some u2 := hP
      rw [List.getElem?_toArray, hu] at q
      exact (Option.some.inj q).symm
    subst eu
    refine ⟨_, rfl, wpAny_letOwnedTupleGo_enum (s := { s with heap := h', toks := tk + 1 }) ho fun h2 he2 sb => ?_⟩
    have gT : h2.get? s.heap.objs.size = some { cls := .type "tuple", data := .seq #[.int i tk, u2] } := (sb.2 _ (Nat.ne_of_gt le)).trans hT
    have okT : ObjOk X.prog X.w (upd H s.heap.objs.size (.tup [.int (i : Nat), x])) h2 s.heap.objs.size (.tup [.int (i : Nat), x]) :=
      ⟨by show 2 ≤ sizeLine; decide, [.int i tk, u2], .cons ⟨_, rfl⟩ (.cons ru .nil), ⟨_, gT, rfl, _, rfl⟩⟩
    have J : Inv X pins σ (upd H s.heap.objs.size (.tup [.int (i : Nat), x])) { s with heap := h2, toks := tk + 1 } := by
      refine I.turnedNew (ch := [e, it]) (fun b ob hb q => ?_) hf (Nat.le_refl _) okT
      have b1 : b ≠ e := fun z => hb (z ▸ List.mem_cons_self)
      have b2 : b ≠ it := fun z => hb (z ▸ tof)
      exact (sb.2 b b1).trans (hk b ob b1 b2 q)
    refine ⟨.ref s.heap.objs.size, _, J, rfl, ⟨_, x, rfl, I.hok.fresh (Nat.le_refl _), rfl, fun ys hy => ?_⟩, ⟨⟨u2, ?_⟩, st'.1.at fun o q => (sb.2 it (Ne.symm hne)).trans q, hne⟩, fun b hb => ?_⟩
    · rw [I.tuple_inj hy hq]
      exact hx
    · have e1 : ((i + 1 : Nat) : Int) = (i : Int) + 1 := Int.natCast_succ i
      rw [e1]
      exact he2
    · have lb : b < s.heap.objs.size := by
        rcases List.mem_cons.mp hb with z | z
        · exact z ▸ le
        · exact List.mem_singleton.mp z ▸ li
      rw [upd_ne (Nat.ne_of_lt lb)]
      exact (hf b hb).1
  done := by
    intro X hP hw hK hc i pins s σ H E I hf st hg
    subst hP hw hK
    obtain ⟨⟨old, he⟩, hit, hne⟩ := st
    obtain ⟨xs, hq, hx⟩ := hg
    obtain ⟨its, rv, p, hz⟩ := I.tuple hq
    have ht : s.heap.IsTuple a its.toArray := p
    have fit := hf it (List.mem_cons_of_mem _ List.mem_cons_self)
    have hT : s.TypeIs (.ref e) "enumerate" := ⟨_, he, rfl⟩
    have none1 : its.toArray[i]? = none := by
      have := rv.length
      rw [List.getElem?_toArray]
      exact List.getElem?_eq_none (by omega)
    unfold pyNext
    refine wpAny_bind (wpAny_attempt (wpAny_callSpecial?_slot (name := Str.ofString "__next__") hT F.slot_enumerate_next (wpAny_call_entry F.slot_enumerate_next hT F.entry_enumerate_next ?_ (F.args_enumerate_next_1 _))))
    show wpAny _ _ (field (.ref e) 2 >>= _) _ _ _
    refine wpAny_bind (wpAny_field he rfl (x := .ref it) rfl ?_)
    refine wpAny_bind (wpAny_nextOf_tuple_end (I.ok.hd hc) hit ht none1 fun h2 x2 eb ⟨ox, hox, hcx⟩ => ?_)
    refine wpAny_bind (wpAny_isInstance (T := "StopIteration") (b := true) ⟨ox, hox, hcx⟩ isSubtype_stop ?_)
    exact wpAny_pure ⟨rfl, I.turned (t' := s.toks) (fun b o hb q => eb b o hb q) fit.1 fit.2.1 fit.2.2.2.1 fit.2.2.2.2.1 fit.2.2.2.2.2⟩
  self A i s Q E st h := let ⟨⟨_, he⟩, _⟩ := st; wpAny_pyIter_enum he h
def iEnT (K : PySem.W.Frag) (ta : TA) : TI := fun σ H R => ta σ H fun vs H1 => ∃ a xs, vs = [.ref a] ∧ SqT K H1 a xs ∧ R (ItEn K a) H1
theorem pi_enT {X : Cx} {e : Expr} {ta : TA} {p pos tpos : Pos} {elts : List Expr} {kk : Nat} (hg : Gl X "enumerate") (hm : X.mg "enumerate" = none) (ha : PA X [e] ta) (hs : starEach [e] X.env = [(false, eval e X.env)] := by rfl) :
    PI X (.Tuple elts kk tpos) (.Call (.Name "enumerate" p) [e] [] pos) (iEnT X.K ta) := by
  refine ⟨fun pins s σ H R I h => ?_⟩
  refine Call_ (ld_blt I hg hm boot_enumerate (PyProof.Rows.callWith_type1 (thn (ha.run pos pins s σ H _ I h) fun us s1 ⟨vs, H1, I1, r1, q1⟩ => ?_) hs rfl))
  obtain ⟨a, xs, rfl, hq, q⟩ := q1
  obtain ⟨u, rfl, ru⟩ := vals1 r1
  obtain rfl : u = Value.ref a := ru
  obtain ⟨its, rv, p', hz⟩ := I1.tuple hq
  refine enCallB (begins_tuple a its.toArray) p' fun h' he hit hk => wpAny_pyIter_enum he ?_
  have I2 : Inv X pins σ H1 { s1 with heap := h' } := I1.kept (t' := s1.toks) hk
  refine ⟨s1.heap.objs.size + 1, [s1.heap.objs.size + 1, s1.heap.objs.size], _, _, H1, rfl, I2, turnEn a (s1.heap.objs.size + 1) s1.heap.objs.size, ⟨⟨.none, he⟩, ⟨_, hit, rfl, rfl⟩, Nat.succ_ne_self _⟩, fun b hb => ?_, q⟩
  have up : s1.heap.objs.size ≤ b := by
    rcases List.mem_cons.mp hb with z | z
    · rw [z]
      exact Nat.le_succ _
    · rw [List.mem_singleton.mp z]
      exact Nat.le_refl _
  exact I1.fpOk up (I1.hok.fresh up)
theorem walkEn {K : PySem.W.Frag} {a : Addr} {xs : List V} : Walk (ItEn K a) xs.length (fun H => SqT K H a xs) (YPair (fun i => some (.int (i : Nat))) (fun i => xs[i]?)) where
  goes i _ hi q := ⟨xs, xs[i], q, List.getElem?_eq_getElem hi⟩
  stops _ q := ⟨xs, q, Nat.le_refl _⟩
  yields i H v H' _ q y := by
    obtain ⟨T, x, h1, h2, h3, h4⟩ := y
    exact ⟨T, .int (i : Nat), x, h1, h2, h3, rfl, h4 xs q⟩
/-! ### a dict whose keys are tuples, made by a comprehension -/
theorem dsetT {X : Cx} {pins : List (Addr × Obj)} {σ : L2.St} {H : Hp} {z : Shared} {E : Value → Shared → Prop} {D b : Addr} {kvs : List (List Key × V)} {k : List Key} {v : V} {r : Value} {Q : Unit → Shared → Prop}
    (room : X.A.units < cLine) (I : Inv X pins σ H z) (hD : H D = some (.dT kvs)) (hb : H b = some (.tup (k.map kV))) (lt : kvs.length < sizeLine) (rv : RelV v r)
    (fin : ∀ z', Inv X pins σ (upd H D (.dT (putK kvs k v))) z' → Q () z') : wpAny (model X.prog X.w) X.A (dictSet D (.ref b) r) Q E z := by
  obtain ⟨_, hs, xs, kt, dd⟩ := dt_of I.hok hD
  have small : xs.length ≤ sizeLine := by
    rw [← Paired.length kt]
    omega
  have grown : (putK kvs k v).length ≤ sizeLine := by
    have := length_putK kvs k v
    omega
  refine wpAny_dictSet_heap (hsz := small) room (key_of I.hok hb) dd fun h2 d2 sb => fin _ ?_
  obtain ⟨o2, es, ep, g2, c2, t2, e2, _, n2⟩ := d2
  refine d_write I (by rw [hD]; trivial) sb ⟨o2, g2⟩ ⟨grown, hs, _, (kt.put k hb rv).keeps fun c ys ec => ?_, o2, es, ep, g2, c2, t2, e2, n2⟩
  exact (upd_ne (ne_of ec hD (fun z => nomatch z))).trans ec
def tDcT (wi : TI) (g : TG) (tk tv : TE) (own : List Nat) : TE := fun σ H Q => wi σ H fun J H1 => ∀ D, H1 D = none → ∃ W : Nat → Nat → Hp → Prop, (∃ m, W 0 m (upd H1 D (.dT []))) ∧ ∀ i m H, W i m H →
  (J.stop i H ∧ Q (.ref D) H) ∨ (J.go i H ∧ ∃ Nx : Hp → Prop, (∀ H', Nx H' → ∃ m', m' < m ∧ W (i + 1) m' H') ∧ ∀ x H', J.yld i H x H' → g x (wipe σ own) H' fun σ2 H2 => wipe σ2 own = wipe σ own ∧
    tk σ2 H2 fun y H3 => tv σ2 H3 fun c H4 => ∃ kvs k b, y = .ref b ∧ H4 b = some (.tup (k.map kV)) ∧ H4 D = some (.dT kvs) ∧ kvs.length < sizeLine ∧ Nx (upd H4 D (.dT (putK kvs k c))))
theorem pe_dcT {X : Cx} {kx vx tg iter : Expr} {scope : Scope} {own : List (Str × Nat)} {pos : Pos} {wi : TI} {g : TG} {tk tv : TE} (calm : X.calm = true) (room : X.A.units < cLine) (nd : X.N.Nodup) (src : PI X tg iter wi) (blk : BlkOk X.N X.env.scope scope own)
    (aim : ∀ (z : Shared) (Hz : Hp) (cl : List (Str × Addr)) (C : Addr) (fp : List Addr), PG (X.blk z Hz scope (compEnvC scope cl C X.env) fp) tg g)
    (key : ∀ (z : Shared) (Hz : Hp) (cl : List (Str × Addr)) (C : Addr) (fp : List Addr), PE (X.blk z Hz scope (compEnvC scope cl C X.env) fp) kx tk)
    (val : ∀ (z : Shared) (Hz : Hp) (cl : List (Str × Addr)) (C : Addr) (fp : List Addr), PE (X.blk z Hz scope (compEnvC scope cl C X.env) fp) vx tv) (plain : ∀ x, foldedSetIterable iter X.env x = pure x := by intro _; rfl) :
    PE X (.DictComp kx vx [⟨tg, iter, [], 0⟩] scope pos) (tDcT wi g tk tv (own.map (·.2))) := by
  refine ⟨fun pins s σ H Q I want => ?_⟩
  rw [arm_eval_DictComp]
  have outer : ∀ y ∈ scope.names, y.2 = .free → ∃ c, X.env.cells.lookup y.1 = some c := fun y hy e => (blk.free y hy e).elim (fun k => I.ok.has _ (.inl k)) fun k => I.ok.has _ (.inr k)
  refine wpAny_comprehension_free (use := none) rfl plain (closure_ok outer) blk.kind (fun y hy e => by rw [blk.uniq y hy, e]) (thn (src.run pins s σ H _ I want) fun _ _ begun => thn begun fun itv s2 ready => ?_)
  obtain ⟨it, fp, tn, J, H2, rfl, I2, T, at0, out2, rest⟩ := ready
  refine wpAny_newObj_type (newEnv_comp ?_)
  have fresh : H2 s2.heap.objs.size = none := I2.hok.fresh (Nat.le_refl _)
  obtain ⟨W, ⟨m0, w0⟩, turn⟩ := rest _ fresh
  have laid := I2.laid (a := s2.heap.objs.size) (o := .dT []) (t' := s2.toks) (fun b o e => Heap.get?_push_of_some _ e) (Nat.le_refl _) (dt_empty s2.heap I2.big)
  have below : ∀ b ∈ fp, b < s2.heap.objs.size := fun b hb => let ⟨_, e, _⟩ := T.obj _ _ at0 b hb; Heap.lt_size e
  have fp3 : ∀ b ∈ fp, FpOk X pins (upd H2 s2.heap.objs.size (.dT [])) b ∧ b < (s2.heap.push { cls := .type "dict", data := .dict #[] }).objs.size := fun b hb => by
    refine ⟨⟨(upd_ne (Nat.ne_of_lt (below b hb))).trans (out2 b hb).1, (out2 b hb).2⟩, ?_⟩
    rw [Heap.size_push]
    exact Nat.lt_succ_of_lt (below b hb)
  have at3 : tn 0 (s2.heap.push { cls := .type "dict", data := .dict #[] }) := T.keep _ _ _ at0 fun b _ o e => Heap.get?_push_of_some _ e
  generalize hz : ({ s2 with heap := s2.heap.push { cls := .type "dict", data := .dict #[] } } : Shared) = z at laid
  have hzh : z.heap = s2.heap.push { cls := .type "dict", data := .dict #[] } := by rw [← hz]
  rw [← hzh] at fp3 at3
  have inner := block_start laid blk nd fp3
  have aim' := aim z (upd H2 s2.heap.objs.size (.dT [])) (cellsFrom (z.heap.objs.size + 1) scope.names (cloFrom X.env.cells scope.names [])) z.heap.objs.size fp
  have key' := key z (upd H2 s2.heap.objs.size (.dT [])) (cellsFrom (z.heap.objs.size + 1) scope.names (cloFrom X.env.cells scope.names [])) z.heap.objs.size fp
  have val' := val z (upd H2 s2.heap.objs.size (.dT [])) (cellsFrom (z.heap.objs.size + 1) scope.names (cloFrom X.env.cells scope.names [])) z.heap.objs.size fp
  have noFp : ∀ b ∈ fp, upd H2 s2.heap.objs.size (.dT []) b = none := fun b hb => (fp3 b hb).1.1
  have goal2 : codeAny (model X.prog X.w) X.A (.compStart (.DictComp kx vx [⟨tg, iter, [], 0⟩] scope pos) 0 (.ref it) (.ref s2.heap.objs.size) (compEnvC scope (cellsFrom (z.heap.objs.size + 1) scope.names (cloFrom X.env.cells scope.names [])) z.heap.objs.size X.env))
      (compPost (model X.prog X.w) X.A X.xe none (EP X pins σ Q) (.ref s2.heap.objs.size) z.heap.objs.size) { z with heap := pushCells (z.heap.push { cls := .type "dict", data := .dict #[] }) scope.names } := ?_
  · exact goal2
  generalize hce : compEnvC scope (cellsFrom (z.heap.objs.size + 1) scope.names (cloFrom X.env.cells scope.names [])) z.heap.objs.size X.env = ce at inner aim' key' val' ⊢
  have loc : ce.locals = z.heap.objs.size := by rw [← hce]; rfl
  generalize hB : upd H2 s2.heap.objs.size (.dT []) = Hb at laid inner aim' key' val' w0 noFp fp3
  generalize hs4 : ({ z with heap := pushCells (z.heap.push { cls := .type "dict", data := .dict #[] }) scope.names } : Shared) = s4 at inner ⊢
  have at4 : tn 0 s4.heap := T.keep _ _ _ at3 fun b _ o e => by
    rw [← hs4]
    exact pushCells_keeps _ _ _ _ (Heap.get?_push_of_some _ e)
  have apart : ∀ {σ1 : L2.St} {H1 : Hp} {z1 : Shared}, Inv (X.blk z Hb scope ce fp) [] σ1 H1 z1 → (∀ b ∈ fp, H1 b = none) → ∀ b ∈ fp, FpOk (X.blk z Hb scope ce fp) [] H1 b := fun I1 n1 b hb =>
    ⟨n1 b hb, (I1.ok.exf b hb).1, I1.ok.exfs b hb, .inl hb, fun x c e => (I1.ok.exf b hb).2 x c e, fun p hp => nomatch hp⟩
  have loop : codeAny (model X.prog X.w) X.A (.compLoop (.DictComp kx vx [⟨tg, iter, [], 0⟩] scope pos) 0 (.ref it) (.ref s2.heap.objs.size) ce) (compPost (model X.prog X.w) X.A X.xe none (EP X pins σ Q) (.ref s2.heap.objs.size) z.heap.objs.size) s4 := by
    refine compLoop_anyD (fun n z1 => ∃ i H1, Inv (X.blk z Hb scope ce fp) [] (wipe σ (own.map (·.2))) H1 z1 ∧ tn i z1.heap ∧ (∀ b ∈ fp, H1 b = none) ∧ W i n H1) ?_ m0 ⟨0, Hb, inner, at4, noFp, w0⟩
    rintro n z5 ⟨i, H5, I5, at5, n5, w5⟩
    cases turn i n H5 w5 with
    | inl over =>
      obtain ⟨stop, told⟩ := over
      refine thnF (T.done (X.blk z Hb scope ce fp) rfl rfl rfl calm i [] z5 _ H5 (fun _ _ => False) I5 (apart I5 n5) at5 stop) fun r z6 ⟨hr, I6⟩ => ?_
      subst hr
      have back : Inv X pins σ H5 z6 := laid.call' (ch := fp) I6.os I6.base I6.hok I6.bare fun b hb => let f := (fp3 b hb).1; ⟨f.2.2.2.1, f.2.1, f.2.2.2.2.1, f.2.2.2.2.2⟩
      have nL : H5 z.heap.objs.size = none := by rw [← loc]; exact I6.free
      obtain ⟨m, ns, _⟩ := I6.loc
      have ns' : z6.heap.Ns ce.locals m := ns
      rw [loc] at ns'
      refine ⟨m, ns', fun h7 sb => ?_⟩
      have f := laid.fpOk (Nat.le_refl z.heap.objs.size) nL
      exact ⟨.ref s2.heap.objs.size, H5, back.turned (t' := z6.toks) (fun b o hb e => (sb.2 b hb).trans e) f.1 f.2.1 f.2.2.2.1 f.2.2.2.2.1 f.2.2.2.2.2, rfl, told⟩
    | inr more =>
      obtain ⟨go, Nx, after, step⟩ := more
      refine thnF (T.item (X.blk z Hb scope ce fp) rfl rfl rfl calm i [] z5 _ H5 (fun _ _ => False) I5 (apart I5 n5) at5 go) fun r z6 ⟨u, hr, h6⟩ => ?_
      subst hr
      refine thnF h6 fun _ z7 ⟨x, H7, I7, r7, y7, at7, n7⟩ => ?_
      refine thnF (aim'.run _ z7 _ H7 x u _ (I7.pinned (apart I7 n7) (T.obj _ _ at7)) r7 (step x H7 y7)) fun _ z8 ⟨σ8, H8, I8, same8, q8⟩ => ?_
      refine wpAny_pure ?_
      show if true = true then _ else _
      rw [if_pos rfl]
      refine thnF (key'.run _ z8 σ8 H8 _ I8 q8) fun ky z9 ⟨yk, H9, I9, r9, q9⟩ => ?_
      refine thnF (val'.run _ z9 σ8 H9 _ I9 q9) fun vy z10 ⟨yv, H10, I10, r10, kvs, k, b, eb, hb10, hD10, lt10, nx⟩ => ?_
      subst eb
      obtain rfl : ky = Value.ref b := r9
      refine dsetT (X := X.blk z Hb scope ce fp) room I10 hD10 hb10 lt10 r10 fun z11 I11 => ?_
      obtain ⟨m', less, w'⟩ := after _ nx
      have pin : ∀ c ∈ fp, ∀ o, z7.heap.get? c = some o → z11.heap.get? c = some o ∧ upd H10 s2.heap.objs.size (.dT (putK kvs k yv)) c = none := fun c hc o e => by
        have p := I11.pin (c, o) (List.mem_append_right _ (List.mem_append_right _ (mem_pinsAt hc e)))
        exact ⟨p.1, p.2.1⟩
      refine ⟨m', less, i + 1, _, (I11.unpinned (pins := [])).weak ?_ (fun j v e => ?_), T.keep _ _ _ at7 fun c hc o e => (pin c hc o e).1, fun c hc => ?_, w'⟩
      · rw [← same8, wipe_length]
      · rw [← same8] at e
        exact (wipe_some e).1
      · obtain ⟨o, e, _⟩ := T.obj _ _ at7 c hc
        exact (pin c hc o e).2
  exact codeAny_compStart_dict loop (T.self X.A 0 _ _ _ at4 loop)
/-! ### sorting tuples of ints -/
/-- the order of tuples of ints -/
def ltZ : List Int → List Int → Bool
  | [], [] => false
  | [], _ :: _ => true
  | _ :: _, [] => false
  | x :: r, y :: t => decide (x < y) || (!decide (y < x) && ltZ r t)
theorem ltZ_lex : ∀ a b : List Int, lexLt itemOrd (a.map Sum.inl) (b.map Sum.inl) = ltZ a b
  | [], [] => rfl
  | [], _ :: _ => rfl
  | _ :: _, [] => rfl
  | x :: r, y :: t => by
    show lexLt itemOrd (Sum.inl x :: r.map Sum.inl) (Sum.inl y :: t.map Sum.inl) = _
    rw [lex_cons, ltZ_lex r t]
    rfl
def TupI (h : Heap) (u : Value) (ks : List Int) : Prop := ∃ a o its n, u = Value.ref a ∧ h.get? a = some o ∧ o.cls = .type "tuple" ∧ o.data = .seq its n ∧ Vals (ks.map V.int) its.toList
theorem TupI.keep {h h' : Heap} {u : Value} {ks : List Int} (t : TupI h u ks) (k : ∀ b o, h.get? b = some o → h'.get? b = some o) : TupI h' u ks := by
  obtain ⟨a, o, its, n, e, g, r⟩ := t
  exact ⟨a, o, its, n, e, k _ _ g, r⟩
theorem tupItems_ints : ∀ (ks : List Int) (us : List Value) (i : Nat), Vals (ks.map V.int) us → tupItems (fun _ => false) i us = some (ks.map Sum.inl)
  | [], us, i, r => by
    cases r
    rfl
  | k :: ks, us, i, r => by
    cases r with
    | cons r1 r2 =>
      obtain ⟨t, rfl⟩ := r1
      show (if (fun _ : Nat => false) i = true then none else (tupItems (fun _ => false) (i + 1) _).map (Sum.inl k :: ·)) = _
      rw [if_neg (fun z => nomatch z), tupItems_ints ks _ (i + 1) r2]
      rfl
theorem TupI.key {h : Heap} {u : Value} {ks : List Int} (t : TupI h u ks) : G.tupKeyC h (fun _ => false) u = some (ks.map Sum.inl) := by
  obtain ⟨a, o, its, n, rfl, g, c, d, r⟩ := t
  exact G.tupKeyC_of g c d (tupItems_ints ks _ 0 r)
theorem tupsOf_ints {h : Heap} {k : Value → List Int} : ∀ {vs : List Value}, (∀ u ∈ vs, TupI h u (k u) ∧ k u ≠ []) → ∃ fs, TupsOf h (fun _ => false) vs fs
  | [], _ => ⟨[], .nil⟩
  | u :: vs, e => by
    obtain ⟨fs, r⟩ := tupsOf_ints (vs := vs) fun y hy => e y (List.mem_cons_of_mem _ hy)
    obtain ⟨t, ne⟩ := e u List.mem_cons_self
    obtain ⟨a, o, its, n, rfl, g, c, d, rv⟩ := t
    revert ne rv
    generalize k (Value.ref a) = ks
    intro ne rv
    cases ks with
    | nil => exact absurd rfl ne
    | cons k0 kr =>
      generalize hl : its.toList = l at rv
      cases rv with
      | cons r1 r2 =>
        obtain ⟨t, rfl⟩ := r1
        have h0 : its[0]? = some (Value.int k0 t) := by rw [← Array.getElem?_toList, hl]; rfl
        exact ⟨_, .cons ⟨a, o, its, n, rfl, g, c, d, h0, fun _ => ⟨_, _, rfl⟩, fun z => nomatch z⟩ r⟩
/-- what a sort of keyed pairs leaves, told of the values -/
theorem sorted_told {h : Heap} {k : Value → List Int} {vs : List Value} {arr : Array Keyed} (each : ∀ u ∈ vs, TupI h u (k u)) (hp : arr.Perm (PyProof.Rows.pairsOf vs)) (hs : SortedToK (G.tupKindC h fun _ => false) arr (PyProof.Rows.pairsOf vs).size) :
    (arr.map (·.2)).toList.Perm vs ∧ (arr.map (·.2)).toList.Pairwise fun x y => ltZ (k y) (k x) = false := by
  have pl := Array.perm_iff_toList_perm.mp hp
  rw [pairsOf_toList] at pl
  have two : ∀ p ∈ arr.toList, p.1 = p.2 ∧ p.1 ∈ vs := fun p m => mem_zip_self (pl.mem_iff.mp m)
  have e : (arr.map (·.2)).toList = arr.toList.map (·.2) := by simp
  rw [e]
  constructor
  · have z := pl.map (·.2)
    rw [List.map_snd_zip (Nat.le_refl _)] at z
    exact z
  · rw [List.pairwise_map, List.pairwise_iff_getElem]
    intro i j hi hj lt
    have sz : arr.size = (PyProof.Rows.pairsOf vs).size := hp.size_eq
    have q := hs i j (Nat.le_of_lt lt) (by rw [← sz]; simpa using hj)
    have at_ : ∀ (n : Nat) (hn : n < arr.toList.length), KK (G.tupKindC h fun _ => false) arr n = (k (arr.toList[n]).2).map Sum.inl := fun n hn => by
      obtain ⟨e1, m1⟩ := two _ (List.getElem_mem hn)
      have g : arr[n]? = some arr.toList[n] := by rw [← Array.getElem?_toList]; exact List.getElem?_eq_getElem hn
      unfold KK
      rw [g]
      show (G.tupKeyC h (fun _ => false) (arr.toList[n]).1).getD [] = _
      rw [(each _ m1).key, ← e1]
      rfl
    have q2 : lexLt itemOrd (KK (G.tupKindC h fun _ => false) arr j) (KK (G.tupKindC h fun _ => false) arr i) = false := q
    rw [at_ i hi, at_ j hj, ltZ_lex] at q2
    exact q2
section
variable {prog : Program} {w : World} {A : Around} {E : Value → Shared → Prop} {z : Shared}
/-- sorted(v), v's items tuples of ints -/
theorem sort_ints_of {v : Value} {vs : List Value} {k : Value → List Int} {Q : Value → Shared → Prop} (each : ∀ u ∈ vs, TupI z.heap u (k u) ∧ k u ≠ []) (small : vs.length ≤ sizeLine)
    (col : ∀ (A' : Around) (R : List Value → Shared → Prop) (E' : Value → Shared → Prop), A'.handled = A.handled → (∀ h' tk, (∀ b o, z.heap.get? b = some o → h'.get? b = some o) → z.heap.objs.size ≤ h'.objs.size → R vs { z with heap := h', toks := tk }) → wpAny (model prog w) A' (collect v) R E' z)
    (fin : ∀ h' tk p (out : Array Value) n, (∀ b o, z.heap.get? b = some o → h'.get? b = some o) → z.heap.objs.size ≤ p → h'.get? p = some (seqObj "list" out n) → out.toList.Perm vs → (out.toList.Pairwise fun x y => ltZ (k y) (k x) = false) → Q (.ref p) { z with heap := h', toks := tk }) :
    wpAny (model prog w) A (call (.builtin "sorted") [v]) Q E z := by
  refine Calls.call_function_entry kind_sorted plain_sorted entry_sorted (args_sorted1 _) ?_
  unfold Builtin.«sorted»
  refine wpAny_bind (m := checkCount "sorted" 1 1 _) (wpAny_pure ?_)
  refine wpAny_bind (col _ _ _ rfl fun h1 tk kp le => ?_)
  refine wpAny_bind (wpAny_newList ?_)
  have gL : (h1.push (seqObj "list" vs.toArray 0)).get? h1.objs.size = some (seqObj "list" vs.toArray 0) := Heap.get?_push_size _ rfl
  have kp2 : ∀ b o, z.heap.get? b = some o → (h1.push (seqObj "list" vs.toArray 0)).get? b = some o := fun b o e => Heap.get?_push_of_some _ (kp b o e)
  have each2 : ∀ u ∈ vs, TupI (h1.push (seqObj "list" vs.toArray 0)) u (k u) ∧ k u ≠ [] := fun u hu => ⟨(each u hu).1.keep kp2, (each u hu).2⟩
  obtain ⟨fs, tf⟩ := tupsOf_ints each2
  refine wpAny_bind (wpAny_holding (wpAny_call_entry slot_list_sort ⟨_, gL, rfl⟩ entry_list_sort
    (G.list_sort_tups (s := { z with heap := h1.push (seqObj "list" vs.toArray 0), toks := tk }) gL tf (fun u hu => ⟨_, (each2 u hu).1.key⟩) small fun st' a1 a2 a3 => ⟨_, rfl, ?_⟩) (args_list_sort _)))
  obtain ⟨t1, t2⟩ := sorted_told (fun u hu => (each2 u hu).1) a1 a2
  obtain ⟨n, gn⟩ := sortedHeap_at (vs := vs) (out := (arrOf st').map (·.2)) gL
  exact wpAny_pure ⟨_, rfl, fin _ _ _ _ n (fun b o e => (sortedHeap_old (Nat.ne_of_lt (Nat.lt_of_lt_of_le (Heap.lt_size e) le)) (Heap.lt_size (kp2 b o e))).trans (kp2 b o e)) le gn t1 t2⟩
theorem ints_inj : ∀ {ks ls : List Int}, ks.map V.int = ls.map V.int → ks = ls
  | [], [], _ => rfl
  | [], _ :: _, e => nomatch e
  | _ :: _, [], e => nomatch e
  | k :: ks, l :: ls, e => by
    obtain ⟨e1, e2⟩ := List.cons.inj e
    rw [V.int.inj e1, ints_inj e2]
theorem TupI.uniq {h : Heap} {u : Value} {ks ls : List Int} (a : TupI h u ks) (b : TupI h u ls) : ks = ls := by
  obtain ⟨p, o, its, n, e, g, _, d, r⟩ := a
  obtain ⟨p2, o2, its2, n2, e2, g2, _, d2, r2⟩ := b
  obtain rfl : p = p2 := Value.ref.inj (e.symm.trans e2)
  rw [g] at g2
  obtain rfl := Option.some.inj g2
  rw [d] at d2
  obtain ⟨rfl, rfl⟩ := Data.seq.inj d2
  exact ints_inj (r.inj r2)
open Classical in
/-- the ints of a tuple in the heap -/
noncomputable def kOf (h : Heap) (u : Value) : List Int := if e : ∃ ks, TupI h u ks then e.choose else []
theorem kOf_at {h : Heap} {u : Value} {ks : List Int} (t : TupI h u ks) : kOf h u = ks := by
  unfold kOf
  rw [dif_pos ⟨ks, t⟩]
  exact (Exists.choose_spec (⟨ks, t⟩ : ∃ ks, TupI h u ks)).uniq t
end
theorem vals_fun : ∀ (as : List Addr) {us : List Value}, Vals (as.map V.ref) us → us = as.map Value.ref
  | [], _, r => by cases r; rfl
  | a :: as, us, r => by
    cases r with
    | cons r1 r2 =>
      cases r1
      rw [vals_fun as r2]
      rfl
section
variable {X : Cx} {pins : List (Addr × Obj)} {σ : L2.St} {H : Hp} {z : Shared}
theorem tupI_of (I : Inv X pins σ H z) {a : Addr} {ks : List Int} (e : SqT X.K H a (ks.map V.int)) : TupI z.heap (.ref a) ks := by
  obtain ⟨its, r, p, _⟩ := I.tuple e
  obtain ⟨o, g, c, n, d⟩ := p
  exact ⟨a, o, _, n, rfl, g, c, d, r⟩
theorem sort_core {A : Around} {E : Value → Shared → Prop} {v : Value} {bs0 : List (Addr × List Int)} {Q : VK} (I : Inv X pins σ H z) (tups : ∀ b ∈ bs0, SqT X.K H b.1 (b.2.map V.int) ∧ b.2 ≠ []) (small : bs0.length ≤ sizeLine)
    (col : ∀ (A' : Around) (R : List Value → Shared → Prop) (E' : Value → Shared → Prop), A'.handled = A.handled → (∀ h' tk, (∀ b o, z.heap.get? b = some o → h'.get? b = some o) → z.heap.objs.size ≤ h'.objs.size → R (bs0.map fun b => .ref b.1) { z with heap := h', toks := tk }) → wpAny (model X.prog X.w) A' (collect v) R E' z)
    (q : ∀ p (bs : List (Addr × List Int)), H p = none → bs.Perm bs0 → (bs.Pairwise fun x y => ltZ y.2 x.2 = false) → Q (.ref p) (upd H p (.lst (bs.map fun b => .ref b.1)))) :
    wpAny (model X.prog X.w) A (call (.builtin "sorted") [v]) (EP X pins σ Q) E z := by
  have at_ : ∀ b ∈ bs0, kOf z.heap (.ref b.1) = b.2 := fun b hb => kOf_at (tupI_of I (tups b hb).1)
  refine sort_ints_of (k := kOf z.heap) (vs := bs0.map fun b => .ref b.1) (fun u hu => ?_) (by rw [List.length_map]; exact small) col fun h' tk p out n kp le gp pm pw => ?_
  · obtain ⟨b, hb, rfl⟩ := List.mem_map.mp hu
    rw [at_ b hb]
    exact ⟨tupI_of I (tups b hb).1, (tups b hb).2⟩
  · obtain ⟨bs, pb, eb⟩ := L2.perm_lift (fun b : Addr × List Int => Value.ref b.1) pm bs0 rfl
    have none1 : H p = none := I.hok.fresh le
    have rv : Vals (bs.map fun b => V.ref b.1) out.toList := by
      rw [← eb]
      exact vals_maps (fun b : Addr × List Int => V.ref b.1) (fun b => Value.ref b.1) bs fun _ _ => rfl
    have pw2 : bs.Pairwise fun x y => ltZ y.2 x.2 = false := by
      rw [← eb, List.pairwise_map] at pw
      refine List.Pairwise.imp_of_mem (fun {x y} hx hy h => ?_) pw
      rw [at_ x (pb.mem_iff.mp hx), at_ y (pb.mem_iff.mp hy)] at h
      exact h
    refine ⟨.ref p, upd H p (.lst (bs.map fun b => .ref b.1)), I.laid (t' := tk) kp le ⟨?_, out.toList, n, rv, ?_⟩, rfl, q p bs none1 pb pw2⟩
    · rw [List.length_map, pb.length_eq]
      exact small
    · rw [Array.toArray_toList]
      exact gp
/-- sorted(xs), xs a list of tuples of ints -/
def rSortT (K : PySem.W.Frag) : List V → Hp → VK → Prop := fun vs H Q => ∃ (a : Addr) (bs0 : List (Addr × List Int)), vs = [.ref a] ∧ SqL K H a (bs0.map fun b => .ref b.1) ∧ (∀ b ∈ bs0, SqT K H b.1 (b.2.map V.int) ∧ b.2 ≠ []) ∧
  ∀ p (bs : List (Addr × List Int)), H p = none → bs.Perm bs0 → (bs.Pairwise fun x y => ltZ y.2 x.2 = false) → Q (.ref p) (upd H p (.lst (bs.map fun b => .ref b.1)))
theorem cr_sortT : CallR X (.builtin "sorted") (rSortT X.K) := by
  intro pins s σ H vs us Q I r h
  obtain ⟨a, bs0, rfl, hs, tups, q⟩ := h
  obtain ⟨its, rv, pl, hz⟩ := I.list hs
  obtain ⟨u, rfl, ru⟩ := vals1 r
  obtain rfl : u = Value.ref a := ru
  have ei : its = bs0.map fun b => .ref b.1 := by
    have e := vals_fun (bs0.map (·.1)) (by rw [List.map_map]; exact rv)
    rw [e, List.map_map]
    rfl
  rw [List.length_map] at hz
  subst ei
  refine sort_core I tups hz (fun A' R E' _ fin => collect_list pl.isList (fin _ s.toks (fun b o e => ?_) ?_) (by rw [List.length_map]; exact hz)) q
  · rw [Heap.get?_update_ne _ _ _ _ (Nat.ne_of_lt (Heap.lt_size e))]
    exact Heap.get?_push_of_some _ e
  · rw [Heap.size_update, Heap.size_push]
    exact Nat.le_succ _
end
/-! ### sorted(d.keys()), the keys tuples of ints -/
theorem keys_paired {H : Hp} : ∀ {kvs : List (List Key × V)} {xs : List (List Key × Addr × Value)} {ks : List (List Int)}, KT H kvs xs → kvs.map (·.1) = ks.map (fun k => k.map Sum.inl) → xs.length = ks.length ∧ ∀ b ∈ (xs.map (fun x => x.2.1)).zip ks, H b.1 = some (.tup (b.2.map V.int))
  | _, _, ks, .nil, e => by
    cases ks with
    | nil => exact ⟨rfl, fun b hb => nomatch hb⟩
    | cons k kr => exact nomatch (show ([] : List (List Key)) = _ :: _ from e)
  | _, _, ks, .cons (a := p) (b := x) h t, e => by
    cases ks with
    | nil => exact nomatch (show _ :: _ = ([] : List (List Key)) from e)
    | cons k kr =>
      obtain ⟨e1, e2⟩ := List.cons.inj (show p.1 :: _ = k.map Sum.inl :: _ from e)
      obtain ⟨l, r⟩ := keys_paired t e2
      refine ⟨congrArg (· + 1) l, fun b hb => ?_⟩
      rcases List.mem_cons.mp (show b ∈ (x.2.1, k) :: _ from hb) with rfl | hb
      · have q := h.2.1
        rw [e1, List.map_map] at q
        exact q
      · exact r b hb
def tSKT (td : TE) : TE := fun σ H Q => td σ H fun v H1 => ∃ (d : Addr) (kvs : List (List Key × V)) (ks : List (List Int)), v = .ref d ∧ H1 d = some (.dT kvs) ∧ kvs.map (·.1) = ks.map (fun k => k.map Sum.inl) ∧ (∀ k ∈ ks, k ≠ []) ∧
  ∀ p (bs : List (Addr × List Int)), H1 p = none → (bs.map (·.2)).Perm ks → (bs.Pairwise fun x y => ltZ y.2 x.2 = false) → (∀ b ∈ bs, H1 b.1 = some (.tup (b.2.map V.int))) → Q (.ref p) (upd H1 p (.lst (bs.map fun b => .ref b.1)))
theorem pe_sKT {X : Cx} {e : Expr} {td : TE} {p pos apos cpos : Pos} (calm : X.calm = true) (hg : Gl X "sorted") (hm : X.mg "sorted" = none) (hv : bootBuiltins "sorted" = some (.builtin "sorted")) (he : PE X e td) (hbase : attributeBase e "keys" X.env (eval e X.env) = eval e X.env := by rfl)
    (hline : (apos.endLine == cpos.line) = true := by rfl)
    (hs : starEach [.Call (.Attribute e "keys" apos) [] [] cpos] X.env = [(false, eval (.Call (.Attribute e "keys" apos) [] [] cpos) X.env)] := by rfl) (hpl : (backTo pos (starEach [.Call (.Attribute e "keys" apos) [] [] cpos] X.env)) = [(false, eval (.Call (.Attribute e "keys" apos) [] [] cpos) X.env)] := by rfl)
    (hn : ("sorted" : Str) ≠ "__name__" := by decide) (hdb : (("sorted" : Str) == ("__debug__" : Str)) = false := by decide) :
    PE X (.Call (.Name "sorted" p) [.Call (.Attribute e "keys" apos) [] [] cpos] [] pos) (tSKT td) := by
  refine ⟨fun pins s σ H Q I want => ?_⟩
  refine wpAny_Call_Name_kw (ld_blt I hg hm hv ?_ hn hdb)
  rw [hpl]
  refine PySem.callWith_builtin1 ?_
  refine wpAny_Call_method (T := "dict") (id := "dict.keys") hbase rfl hline F.plainAttrs_dict F.slot_dict_keys F.type_dict_keys (thn (he.run pins s σ H _ I want) fun u s1 told => ?_)
  obtain ⟨x, H1, I1, rx, d, kvs, ks, rfl, hd, eks, ne, q⟩ := told
  obtain rfl : u = Value.ref d := rx
  obtain ⟨hz, ns, xs, kt, dd⟩ := dt_of I1.hok hd
  obtain ⟨es, ep, raw, esz, enth⟩ := dd.raw
  refine ⟨raw.typeIs, dictOfH_noDict dd, ?_⟩
  show wpAny _ _ (callWith cpos (.builtin "dict.keys") [.ref d] [] []) _ X.xe s1
  refine method_meetsIn F.slot_dict_keys F.entry_dict_keys rfl (PySem.evalArgs_none ⟨rfl, raw.typeIs, F.args_dict_keys_1 _, _, meets_dict_keys_raw d ns, ⟨es, ep, raw⟩, ?_⟩)
  have I2 : Inv X pins σ H1 { s1 with heap := s1.heap.push { cls := .type "dict_keys", data := .fields #[.ref d] } } := I1.kept (t' := s1.toks) fun b o e => Heap.get?_push_of_some _ e
  obtain ⟨lx, tups⟩ := keys_paired kt eks
  have lk : (xs.map fun x => x.2.1).length = ks.length := by rw [List.length_map]; exact lx
  have n2 : ((xs.map fun x => x.2.1).zip ks).length = es.size := by rw [List.length_zip, lk, Nat.min_self, ← lx, esz]
  have top : (s1.heap.push { cls := .type "dict_keys", data := .fields #[.ref d] }).get? s1.heap.objs.size = some { cls := .type "dict_keys", data := .fields #[.ref d] } := Heap.get?_push_size _ rfl
  refine sort_core (bs0 := (xs.map fun x => x.2.1).zip ks) I2 (fun b hb => ⟨SqT.of (tups b hb), ne b.2 (List.of_mem_zip hb).2⟩) ?_ (fun A' R E' hA fin => ?_) fun p bs hp pm pw => ?_
  · rw [n2, esz, ← Paired.length kt]
    exact hz
  · refine PySem.W.kdu_collect (KdlSrc.rawKeys (r := s1.heap.objs.size) (d := d) (es := es) (ep := ep)) (hA.trans (I1.ok.hd calm)) ⟨⟨_, top, rfl, rfl⟩, raw.at fun o e => Heap.get?_push_of_some _ e⟩ ?_ fun h' tk acc kp it => ?_
    · rw [esz, ← Paired.length kt]
      exact hz
    · have eacc : acc.toList = ((xs.map fun x => x.2.1).zip ks).map fun b => .ref b.1 := by
        have la : acc.toList.length = es.size := by rw [Array.length_toList]; exact it.1
        apply List.ext_getElem (by rw [List.length_map, n2, la])
        intro i h1 h2
        have hi : i < es.size := by omega
        obtain ⟨hi', ev⟩ := it.2 i acc.toList[i] (by rw [← Array.getElem?_toList]; exact List.getElem?_eq_getElem h1)
        obtain ⟨y, hy, ek, _⟩ := enth i hi
        obtain ⟨hx, exy⟩ := List.getElem?_eq_some_iff.mp hy
        rw [ev, ek, List.getElem_map, List.getElem_zip, List.getElem_map, exy]
      rw [eacc]
      refine fin h' tk kp ?_
      have lt : s1.heap.objs.size < h'.objs.size := Heap.lt_size (kp _ _ top)
      show (s1.heap.push _).objs.size ≤ _
      rw [Heap.size_push]
      exact lt
  · refine q p bs hp ?_ pw fun b hb => tups b (pm.mem_iff.mp hb)
    have z := pm.map (·.2)
    rw [List.map_snd_zip (Nat.le_of_eq lk.symm)] at z
    exact z
/-! ### dict(xs), xs a list of pairs (tuple, value) -/
/-- a pair's place, its key's place, the key, the value -/
abbrev PKV := Addr × Addr × List Key × V
def putAllK (acc : List (List Key × V)) (ps : List PKV) : List (List Key × V) := ps.foldl (fun acc x => putK acc x.2.2.1 x.2.2.2) acc
theorem putAllK_len : ∀ (ps : List PKV) (acc : List (List Key × V)), (putAllK acc ps).length ≤ acc.length + ps.length
  | [], _ => Nat.le_refl _
  | x :: ps, acc => by
    have h1 := putAllK_len ps (putK acc x.2.2.1 x.2.2.2)
    have h2 := length_putK acc x.2.2.1 x.2.2.2
    show (putAllK (putK acc x.2.2.1 x.2.2.2) ps).length ≤ _
    rw [List.length_cons]
    omega
def PkOk (H : Hp) (x : PKV) : Prop := H x.1 = some (.tup [.ref x.2.1, x.2.2.2]) ∧ H x.2.1 = some (.tup (x.2.2.1.map kV))
/-- the pairs as they lie in the heap -/
def PkAt (H : Hp) (h : Heap) (x : PKV) (r : List Key × Addr × Value) : Prop := x.2.2.1 = r.1 ∧ x.2.1 = r.2.1 ∧ RelV x.2.2.2 r.2.2 ∧ H r.2.1 = some (.tup (r.1.map kV)) ∧ PairAt h x.1 (.ref r.2.1) r.2.2
section
variable {X : Cx} {pins : List (Addr × Obj)} {σ : L2.St} {H : Hp} {z : Shared}
theorem pk_at (I : Inv X pins σ H z) : ∀ ps : List PKV, (∀ x ∈ ps, PkOk H x) → ∃ rs, Paired (PkAt H z.heap) ps rs
  | [], _ => ⟨[], .nil⟩
  | x :: ps, e => by
    obtain ⟨rs, r⟩ := pk_at I ps fun y hy => e y (List.mem_cons_of_mem _ hy)
    obtain ⟨e1, e2⟩ := e x List.mem_cons_self
    obtain ⟨_, its, rv, o, g, c, n, d⟩ := (show ObjOk X.prog X.w H z.heap x.1 (.tup [.ref x.2.1, x.2.2.2]) from I.hok _ _ e1)
    obtain ⟨u1, u2, rfl, r1, r2⟩ := vals2 rv
    obtain rfl : u1 = Value.ref x.2.1 := r1
    exact ⟨(x.2.2.1, x.2.1, u2) :: rs, .cons ⟨rfl, rfl, r2, e2, .inl ⟨o, g, c, n, d⟩⟩ r⟩
end
theorem pk_kt {H H2 : Hp} {h : Heap} (tk : ∀ b ys, H b = some (.tup ys) → H2 b = some (.tup ys)) : ∀ {ps : List PKV} {rs : List (List Key × Addr × Value)} {kvs : List (List Key × V)} {xs : List (List Key × Addr × Value)}, Paired (PkAt H h) ps rs → KT H2 kvs xs → KT H2 (putAllK kvs ps) (storedAllH xs rs)
  | _, _, _, _, .nil, t => t
  | _, _, _, _, .cons (a := x) (b := r) e p, t => by
    obtain ⟨e1, e2, e3, e4, _⟩ := e
    have t2 := t.put x.2.2.1 (b := r.2.1) (y := x.2.2.2) (u := r.2.2) (by rw [e1]; exact tk _ _ e4) e3
    have q := pk_kt tk p t2
    rw [e1] at q
    have show1 : x.2.2.1 = r.1 := e1
    show KT H2 (putAllK (putK _ x.2.2.1 x.2.2.2) _) _
    rw [show1]
    exact q
theorem pk_get {H : Hp} {h : Heap} : ∀ {ps : List PKV} {rs : List (List Key × Addr × Value)}, Paired (PkAt H h) ps rs → ∀ (j : Nat) (r : List Key × Addr × Value), rs[j]? = some r → ∃ x, ps[j]? = some x ∧ PkAt H h x r
  | _, _, .nil, j, r, e => nomatch (show (none : Option (List Key × Addr × Value)) = some r from e)
  | _, _, .cons (a := x) e p, 0, r, hj => by
    cases hj
    exact ⟨x, rfl, e⟩
  | _, _, .cons e p, j + 1, r, hj => pk_get p j r hj
def rDictP (K : PySem.W.Frag) : List V → Hp → VK → Prop := fun vs H Q => ∃ (a : Addr) (ps : List PKV), vs = [.ref a] ∧ SqL K H a (ps.map fun x => .ref x.1) ∧ (∀ x ∈ ps, PkOk H x) ∧ ∀ p, H p = none → Q (.ref p) (upd H p (.dT (putAllK [] ps)))
theorem cr_dictP {X : Cx} (calm : X.calm = true) (room : X.A.units + 2 < cLine) : CallR X (.type "dict") (rDictP X.K) := by
  intro pins s σ H vs us Q I r h
  obtain ⟨a, ps, rfl, hs, oks, q⟩ := h
  obtain ⟨its, rv, pl, hz⟩ := I.list hs
  obtain ⟨u, rfl, ru⟩ := vals1 r
  obtain rfl : u = Value.ref a := ru
  rw [List.length_map] at hz
  have ei : its = ps.map fun x => Value.ref x.1 := by
    have e := vals_fun (ps.map (·.1)) (by rw [List.map_map]; exact rv)
    rw [e, List.map_map]
    rfl
  obtain ⟨rs, pr⟩ := pk_at I ps oks
  have len : ps.length = rs.length := Paired.length pr
  have ok : PlainSeq "list" s.heap a its.toArray ∧ PairItems s.heap its.toArray (fun j => ((ps[j]?).map (·.1)).getD 0) (rs.map fun r => (Value.ref r.2.1, r.2.2)) := by
    refine ⟨pl, ?_, fun j k v hj => ?_⟩
    · rw [ei, List.length_map, List.size_toArray, List.length_map, len]
    · rw [List.getElem?_map] at hj
      obtain ⟨r, hr, er⟩ := Option.map_eq_some_iff.mp hj
      cases er
      obtain ⟨x, hx, at_⟩ := pk_get pr j r hr
      refine ⟨?_, ?_⟩
      · rw [ei, List.getElem?_toArray, List.getElem?_map, hx]
        show some (Value.ref x.1) = some (Value.ref (((ps[j]?).map (·.1)).getD 0))
        rw [hx]
        rfl
      · show PairAt s.heap (((ps[j]?).map (·.1)).getD 0) _ _
        rw [hx]
        exact at_.2.2.2.2
  have P := PairArg.list (prog := X.prog) (w := X.w) a its.toArray (fun j => ((ps[j]?).map (·.1)).getD 0) (rs.map fun r => (Value.ref r.2.1, r.2.2))
  refine call_dict_pairsH (knd := tupleKind (mixKind X.prog X.w)) (ps := rs) P (I.ok.hd calm) (show X.A.in1.in1.units < cLine from room) ok ⟨by rw [List.length_map], fun j key v hj => ?_⟩ (fun h2 kp x hx => ?_) ?_ fun h2 tk dd kp => ?_
  · have hj' : (rs.map fun r => (Value.ref r.2.1, r.2.2))[j]? = some (key, v) := hj
    rw [List.getElem?_map] at hj'
    obtain ⟨r, hr, er⟩ := Option.map_eq_some_iff.mp hj'
    cases er
    exact ⟨r.1, r.2.1, hr, rfl⟩
  · obtain ⟨j, hj⟩ := List.mem_iff_getElem?.mp hx
    obtain ⟨y, _, at_⟩ := pk_get pr j x hj
    obtain ⟨o, it, n, g, c⟩ := key_of I.hok at_.2.2.2.1
    exact ⟨o, it, n, kp _ o (Nat.ne_of_lt (Heap.lt_size g)) (fun z => nomatch z) g, c⟩
  · rw [List.length_map, ← len]
    exact hz
  · have fresh : H s.heap.objs.size = none := I.hok.fresh (Nat.le_refl _)
    have k2 : ∀ b o, s.heap.get? b = some o → h2.get? b = some o := fun b o e => kp b o (fun z => nomatch z) e
    obtain ⟨o, es, ep, g, c, d, e, _, n⟩ := dd
    have kt : KT (upd H s.heap.objs.size (.dT (putAllK [] ps))) (putAllK [] ps) (storedAllH [] rs) := pk_kt (fun b ys e => by rw [upd_ne (ne_of_none e fresh)]; exact e) pr .nil
    have big : (s.heap.objs.size == sysModules) = false := by
      have := I.big
      exact beq_false_of_ne (Nat.ne_of_gt this)
    have small : (putAllK [] ps).length ≤ sizeLine := by
      have := putAllK_len ps []
      rw [List.length_nil] at this
      omega
    exact ⟨.ref s.heap.objs.size, _, I.laid (t' := tk) (o := .dT (putAllK [] ps)) k2 (Nat.le_refl _) ⟨small, big, _, kt, o, es, ep, g, c, d, e, n⟩, rfl, q _ fresh⟩
theorem hu2_of {A : Around} {k : Nat} (hr : Room k A) : A.units + 2 < cLine := by
  have := hr.units
  omega
section
variable {X : Cx} {K : PySem.W.Frag}
theorem k_sortT (hK : X.K = K := by rfl) : CallR X (.builtin "sorted") (rSortT K) := hK ▸ cr_sortT
theorem k_dictP (calm : X.calm = true) (room : X.A.units + 2 < cLine) (hK : X.K = K := by rfl) : CallR X (.type "dict") (rDictP K) := hK ▸ cr_dictP calm room
theorem k_leT (hu : X.A.units < cLine) (hK : X.K = K := by rfl) : OpR X (compareOp .LtE) (rLeT K) := hK ▸ op_leT hu
theorem k_enT {e : Expr} {ta : TA} {p pos tpos : Pos} {elts : List Expr} {kk : Nat} (hg : Gl X "enumerate") (hm : X.mg "enumerate" = none) (ha : PA X [e] ta) (hs : starEach [e] X.env = [(false, eval e X.env)] := by rfl) (hK : X.K = K := by rfl) :
    PI X (.Tuple elts kk tpos) (.Call (.Name "enumerate" p) [e] [] pos) (iEnT K ta) := hK ▸ pi_enT hg hm ha hs
theorem k_list_of (hK : X.K = K := by rfl) : CallR X (.type "list") (fun xs H Q => ∃ p ys, xs = [.ref p] ∧ (SqL K H p ys ∨ SqT K H p ys) ∧ ∀ l, H l = none → Q (.ref l) (upd H l (.lst ys))) := hK ▸ call_list_of
theorem k_fld {e : Expr} {f : Str} {pos : Pos} {ta : TE} (he : PE X e ta) (hb : attributeBase e f X.env (eval e X.env) = eval e X.env) (hK : X.K = K := by rfl) : PE X (.Attribute e f pos) (tFld K ta f) := hK ▸ pe_fld he hb
theorem k_sfld {o value : Expr} {f : Str} {pos pos' : Pos} {ta tv : TE} (ha : PE X o ta) (hv : PE X value tv) (hs : swapsWith value (some (.Attribute o f pos')) pos.line X.env = pure false) (hK : X.K = K := by rfl) : PS X (.Assign [.Attribute o f pos'] value pos) (sFld K ta tv f) := hK ▸ ps_fld ha hv hs
end
theorem k_pgT {X : Cx} {K : PySem.W.Frag} (n : Nat) {es : List Expr} {k : Nat} {pos : Pos} {t : TGs} (hc : X.calm = true) (h : PGs X es t) (hn : (assignEach es X.env).length = n := by rfl) (hst : (assignEach es X.env).findIdx? (·.1) = none := by rfl) (hK : X.K = K := by rfl) : PG X (.Tuple es k pos) (gTup K n t) := hK ▸ pg_tup hc h hn hst
/-! ### a tuple of the written part -/
def KTu (K : PySem.W.Frag) (a : Addr) (xs : List V) : Prop := ∀ H, SqT K H a xs
def AheadAt (K : PySem.W.Frag) (mg : Str → Option Value) : Prop := ∃ A b0 b1 b2 b3 : Addr, mg "AHEAD" = some (.ref A) ∧ KTu K A [.ref b0, .ref b1, .ref b2, .ref b3] ∧ KTu K b0 [.int 0, .int (-1)] ∧ KTu K b1 [.int 1, .int 0] ∧ KTu K b2 [.int 0, .int 1] ∧ KTu K b3 [.int (-1), .int 0]
theorem ktu_of {K : PySem.W.Frag} {a : Addr} {xs : List V} {its : Array Value} {n : Nat} (e : K.lookup a = some { cls := .type "tuple", data := .seq its n }) (z : its.size ≤ 1000) (r : Vals xs its.toList) : KTu K a xs := fun H => .inr ⟨_, its, n, e, rfl, rfl, small_le z, r⟩
/-! ### objects that may change -/
/-- all stays but what stands at these places -/
def KeepE (E : List Addr) (H H' : Hp) : Prop := ∀ b o, b ∉ E → H b = some o → H' b = some o
theorem KeepE.refl (E : List Addr) (H : Hp) : KeepE E H H := fun _ _ _ h => h
theorem KeepE.trans {E : List Addr} {H H1 H2 : Hp} (a : KeepE E H H1) (b : KeepE E H1 H2) : KeepE E H H2 := fun c o n h => b c o n (a c o n h)
theorem KeepE.new {E : List Addr} {H : Hp} {p : Addr} {o : HO} (h : H p = none) : KeepE E H (upd H p o) := fun b u _ e => by
  rw [upd_ne (ne_of_none e h)]
  exact e
theorem KeepE.put {E : List Addr} {H : Hp} {p : Addr} {o : HO} (h : p ∈ E) : KeepE E H (upd H p o) := fun b u n e => by
  rw [upd_ne (fun z => n (by rw [z]; exact h))]
  exact e
theorem KeepE.fresh {E : List Addr} {H H' : Hp} {p : Addr} {o : HO} (k : KeepE E H H') (h : H p = none) : KeepE E H (upd H' p o) := fun b u n e => by
  rw [upd_ne (ne_of_none e h)]
  exact k b u n e
theorem KeepE.putR {E : List Addr} {H H' : Hp} {p : Addr} {o : HO} (k : KeepE E H H') (h : p ∈ E) : KeepE E H (upd H' p o) := k.trans (KeepE.put h)
theorem Same.keepE {E : List Addr} {H H' : Hp} (s : Same H H') : KeepE E H H' := fun b o _ h => s b o h
theorem KeepE.mono {E F : List Addr} {H H' : Hp} (k : KeepE E H H') (h : ∀ a ∈ E, a ∈ F) : KeepE F H H' := fun b o n e => k b o (fun z => n (h b z)) e
/-- what the first heap did not know may change -/
theorem KeepE.same {E : List Addr} {H H' : Hp} (k : KeepE E H H') (h : ∀ a ∈ E, H a = none) : Same H H' := fun b o e => k b o (fun z => by rw [h b z] at e; cases e) e
/-- no tuple, nothing frozen -/
def Soft (H : Hp) (a : Addr) : Prop := (∀ xs, H a ≠ some (.tup xs)) ∧ ∀ o u, H a ≠ some (.frz o u)
theorem KeepE.tk {E : List Addr} {H H' : Hp} (k : KeepE E H H') (s : ∀ a ∈ E, Soft H a) : TK H H' :=
  ⟨fun b xs e => k b _ (fun z => (s b z).1 xs e) e, fun b o u e => k b _ (fun z => (s b z).2 o u e) e⟩
theorem Soft.none {H : Hp} {a : Addr} (h : H a = none) : Soft H a := ⟨fun xs e => (by rw [h] at e; cases e), fun o u e => (by rw [h] at e; cases e)⟩
theorem Soft.dT {H : Hp} {a : Addr} {kvs : List (List Key × V)} (h : H a = some (.dT kvs)) : Soft H a := ⟨fun xs e => (by rw [h] at e; cases e), fun o u e => (by rw [h] at e; cases e)⟩
theorem Soft.ins {H : Hp} {a C dx : Addr} {fs : List (Str × V)} (h : H a = some (.ins C dx fs)) : Soft H a := ⟨fun xs e => (by rw [h] at e; cases e), fun o u e => (by rw [h] at e; cases e)⟩
theorem Soft.lst {H : Hp} {a : Addr} {xs : List V} (h : H a = some (.lst xs)) : Soft H a := ⟨fun xs e => (by rw [h] at e; cases e), fun o u e => (by rw [h] at e; cases e)⟩
theorem KeepE.back {E : List Addr} {H H' : Hp} {p : Addr} (k : KeepE E H H') (h : H' p = none) (n : p ∉ E) : H p = none := by
  cases e : H p with
  | none => rfl
  | some o =>
    rw [k p o n e] at h
    cases h
theorem Same.back {H H' : Hp} {p : Addr} (k : Same H H') (h : H' p = none) : H p = none := by
  cases e : H p with
  | none => rfl
  | some o =>
    rw [k p o e] at h
    cases h
/-! ### slices -/
theorem sl32 {a b c : V} : ¬ (HT.sIx ([a, b, c] : List V).length 0 none = 0 ∧ HT.sIx ([a, b, c] : List V).length ([a, b, c] : List V).length (some 2) = ([a, b, c] : List V).length) := by
  show ¬ (HT.sIx 3 0 none = 0 ∧ HT.sIx 3 3 (some 2) = 3)
  decide
theorem sl42 {a b c d : V} : ¬ (HT.sIx ([a, b, c, d] : List V).length 0 none = 0 ∧ HT.sIx ([a, b, c, d] : List V).length ([a, b, c, d] : List V).length (some 2) = ([a, b, c, d] : List V).length) := by
  show ¬ (HT.sIx 4 0 none = 0 ∧ HT.sIx 4 4 (some 2) = 4)
  decide
/-! ### readings of tuples -/
section
variable {K : PySem.W.Frag} {H : Hp}
theorem Tp.int4 {v : V} {i j k l : Int} (h : Tp K H v (.tuple [.int i, .int j, .int k, .int l])) : ∃ a, v = .ref a ∧ SqT K H a [.int i, .int j, .int k, .int l] := by
  obtain ⟨a, xs, rfl, hs, h⟩ := h.tupI
  obtain ⟨x, _, rfl, h1, h⟩ := h.consI
  obtain ⟨y, _, rfl, h2, h⟩ := h.consI
  obtain ⟨z, _, rfl, h3, h⟩ := h.consI
  obtain ⟨u, _, rfl, h4, h⟩ := h.consI
  rw [h1.intI, h2.intI, h3.intI, h4.intI, h.nilI] at hs
  exact ⟨a, rfl, hs⟩
theorem Tp.int2 {v : V} {i j : Int} (h : Tp K H v (.tuple [.int i, .int j])) : ∃ a, v = .ref a ∧ SqT K H a [.int i, .int j] := by
  obtain ⟨a, xs, rfl, hs, h⟩ := h.tupI
  obtain ⟨x, _, rfl, h1, h⟩ := h.consI
  obtain ⟨y, _, rfl, h2, h⟩ := h.consI
  rw [h1.intI, h2.intI, h.nilI] at hs
  exact ⟨a, rfl, hs⟩
theorem Tp.of_ints {a : Addr} : ∀ {ks : List Int}, SqT K H a (ks.map V.int) → Tp K H (.ref a) (.tuple (ks.map PyData.int)) := fun {ks} h => by
  refine .tup h ?_
  clear h
  induction ks with
  | nil => exact .nil
  | cons k ks ih => exact .cons (.int k) ih
end
/-! ### cells: places and their colours, as a dict keeps them -/
abbrev Pt := Int × Int
abbrev CM := List (Pt × Int)
def ptK (p : Pt) : List Key := [Sum.inl p.1, Sum.inl p.2]
theorem ptK_inj {p q : Pt} (h : ptK p = ptK q) : p = q := by
  obtain ⟨a, b⟩ := p
  obtain ⟨c, d⟩ := q
  have e1 := List.cons.inj h
  have e2 := List.cons.inj e1.2
  have q1 : a = c := Sum.inl.inj e1.1
  have q2 : b = d := Sum.inl.inj e2.1
  rw [q1, q2]
theorem ptK_v (p : Pt) : (ptK p).map kV = [V.int p.1, V.int p.2] := rfl
def look : CM → Pt → Option Int
  | [], _ => none
  | e :: r, p => if e.1 = p then some e.2 else look r p
def putM : CM → Pt → Int → CM
  | [], p, c => [(p, c)]
  | e :: r, p, c => if e.1 = p then (e.1, c) :: r else e :: putM r p c
def dropM : CM → Pt → CM
  | [], _ => []
  | e :: r, p => if e.1 = p then r else e :: dropM r p
def cellK (m : CM) : List (List Key × V) := m.map fun e => (ptK e.1, V.int e.2)
def col (m : CM) (p : Pt) : Int := (look m p).getD 0
theorem look_none : ∀ {m : CM} {p : Pt}, look m p = none ↔ p ∉ m.map (·.1)
  | [], p => by simp [look]
  | e :: r, p => by
    rw [List.map_cons, List.mem_cons]
    unfold look
    by_cases h : e.1 = p
    · rw [if_pos h]
      simp [h]
    · rw [if_neg h, look_none]
      exact ⟨fun x y => y.elim (fun z => h z.symm) x, fun x y => x (.inr y)⟩
theorem look_mem : ∀ {m : CM} {p : Pt} {c : Int}, look m p = some c → (p, c) ∈ m
  | [], p, c, h => nomatch h
  | e :: r, p, c, h => by
    unfold look at h
    by_cases q : e.1 = p
    · rw [if_pos q] at h
      rw [← q, ← Option.some.inj h]
      exact List.mem_cons_self
    · rw [if_neg q] at h
      exact List.mem_cons_of_mem _ (look_mem h)
theorem mem_look : ∀ {m : CM} {p : Pt} {c : Int}, (m.map (·.1)).Nodup → (p, c) ∈ m → look m p = some c
  | [], p, c, _, h => nomatch h
  | e :: r, p, c, nd, h => by
    rw [List.map_cons, List.nodup_cons] at nd
    unfold look
    rcases List.mem_cons.mp h with rfl | h
    · exact if_pos rfl
    · have q : e.1 ≠ p := fun z => nd.1 (z ▸ List.mem_map.mpr ⟨_, h, rfl⟩)
      rw [if_neg q]
      exact mem_look nd.2 h
theorem look_put : ∀ (m : CM) (p q : Pt) (c : Int), look (putM m p c) q = if q = p then some c else look m q
  | [], p, q, c => by
    show (if p = q then some c else none) = _
    by_cases h : q = p
    · rw [if_pos h, if_pos h.symm]
    · rw [if_neg h, if_neg (fun z => h z.symm)]
      rfl
  | e :: r, p, q, c => by
    unfold putM
    by_cases h : e.1 = p
    · rw [if_pos h]
      unfold look
      by_cases hq : q = p
      · rw [if_pos hq, if_pos (h.trans hq.symm)]
      · rw [if_neg hq, if_neg (fun z => hq (z.symm.trans h)), if_neg (fun z => hq (z.symm.trans h))]
    · rw [if_neg h]
      unfold look
      by_cases he : e.1 = q
      · rw [if_pos he, if_pos he, if_neg (fun z => h (he.trans z))]
      · rw [if_neg he, if_neg he, look_put r p q c]
theorem keys_put : ∀ {m : CM} {p q : Pt} {c : Int}, q ∈ (putM m p c).map (·.1) → q = p ∨ q ∈ m.map (·.1)
  | m, p, q, c, h => by
    by_cases e : q = p
    · exact .inl e
    · refine .inr (Classical.byContradiction fun n => ?_)
      have z := look_put m p q c
      rw [if_neg e, look_none.mpr n] at z
      exact look_none.mp z h
theorem nd_put : ∀ {m : CM} (p : Pt) (c : Int), (m.map (·.1)).Nodup → ((putM m p c).map (·.1)).Nodup
  | [], p, c, _ => List.nodup_cons.mpr ⟨List.not_mem_nil, List.nodup_nil⟩
  | e :: r, p, c, nd => by
    rw [List.map_cons, List.nodup_cons] at nd
    unfold putM
    by_cases h : e.1 = p
    · rw [if_pos h, List.map_cons, List.nodup_cons]
      exact nd
    · rw [if_neg h, List.map_cons, List.nodup_cons]
      exact ⟨fun z => (keys_put z).elim h nd.1, nd_put p c nd.2⟩
theorem len_put : ∀ (m : CM) (p : Pt) (c : Int), (putM m p c).length ≤ m.length + 1
  | [], _, _ => Nat.le_refl _
  | e :: r, p, c => by
    unfold putM
    have := len_put r p c
    split <;> simp only [List.length_cons] <;> omega
theorem look_drop : ∀ {m : CM} (p q : Pt), (m.map (·.1)).Nodup → look (dropM m p) q = if q = p then none else look m q
  | [], p, q, _ => by
    show (none : Option Int) = if q = p then none else none
    split <;> rfl
  | e :: r, p, q, nd => by
    rw [List.map_cons, List.nodup_cons] at nd
    unfold dropM
    by_cases h : e.1 = p
    · rw [if_pos h]
      by_cases hq : q = p
      · rw [if_pos hq, hq]
        exact look_none.mpr (h ▸ nd.1)
      · rw [if_neg hq]
        conv => rhs; unfold look
        rw [if_neg (fun z => hq (z.symm.trans h))]
    · rw [if_neg h]
      unfold look
      by_cases he : e.1 = q
      · rw [if_pos he, if_pos he, if_neg (fun z => h (he.trans z))]
      · rw [if_neg he, if_neg he, look_drop p q nd.2]
theorem keys_drop : ∀ {m : CM} {p q : Pt}, q ∈ (dropM m p).map (·.1) → q ∈ m.map (·.1)
  | e :: r, p, q, h => by
    unfold dropM at h
    by_cases z : e.1 = p
    · rw [if_pos z] at h
      exact List.mem_cons_of_mem _ h
    · rw [if_neg z] at h
      rcases List.mem_cons.mp h with e2 | h
      · exact List.mem_cons.mpr (.inl e2)
      · exact List.mem_cons_of_mem _ (keys_drop h)
theorem nd_drop : ∀ {m : CM} (p : Pt), (m.map (·.1)).Nodup → ((dropM m p).map (·.1)).Nodup
  | [], p, _ => List.nodup_nil
  | e :: r, p, nd => by
    rw [List.map_cons, List.nodup_cons] at nd
    unfold dropM
    by_cases h : e.1 = p
    · rw [if_pos h]
      exact nd.2
    · rw [if_neg h, List.map_cons, List.nodup_cons]
      exact ⟨fun z => nd.1 (keys_drop z), nd_drop p nd.2⟩
theorem len_drop : ∀ (m : CM) (p : Pt), (dropM m p).length ≤ m.length
  | [], _ => Nat.le_refl _
  | e :: r, p => by
    unfold dropM
    have := len_drop r p
    split <;> simp only [List.length_cons] <;> omega
theorem cell_len (m : CM) : (cellK m).length = m.length := List.length_map _
theorem cell_val : ∀ (m : CM) (p : Pt), valV (cellK m) (ptK p) = (look m p).map V.int
  | [], _ => rfl
  | e :: r, p => by
    unfold look
    by_cases h : e.1 = p
    · rw [if_pos h]
      exact valV_pos (p := (ptK e.1, V.int e.2)) (congrArg ptK h)
    · rw [if_neg h]
      exact (valV_neg (p := (ptK e.1, V.int e.2)) (fun z => h (ptK_inj z))).trans (cell_val r p)
theorem cell_map (p : Pt) (c : Int) : ∀ (m : CM), (m.map (·.1)).Nodup → p ∈ m.map (·.1) → (cellK m).map (fun kv => if kv.1 = ptK p then (kv.1, V.int c) else kv) = cellK (putM m p c)
  | [], _, h => nomatch h
  | e :: r, nd, h => by
    rw [List.map_cons, List.nodup_cons] at nd
    show (if ptK e.1 = ptK p then (ptK e.1, V.int c) else (ptK e.1, V.int e.2)) :: (cellK r).map _ = _
    unfold putM
    by_cases q : e.1 = p
    · rw [if_pos q, if_pos (congrArg ptK q)]
      have nin : p ∉ r.map (·.1) := q ▸ nd.1
      have same : (cellK r).map (fun kv => if kv.1 = ptK p then (kv.1, V.int c) else kv) = cellK r := by
        unfold cellK
        rw [List.map_map]
        refine List.map_congr_left fun y hy => ?_
        show (if ptK y.1 = ptK p then _ else _) = _
        rw [if_neg (fun z => nin (by rw [← ptK_inj z]; exact List.mem_map.mpr ⟨y, hy, rfl⟩))]
      rw [same]
      rfl
    · rw [if_neg q, if_neg (fun z => q (ptK_inj z))]
      rcases List.mem_cons.mp (show p ∈ e.1 :: r.map (·.1) from h) with z | z
      · exact absurd z.symm q
      · rw [cell_map p c r nd.2 z]
        rfl
theorem cell_new (p : Pt) (c : Int) : ∀ (m : CM), p ∉ m.map (·.1) → cellK m ++ [(ptK p, V.int c)] = cellK (putM m p c)
  | [], _ => rfl
  | e :: r, h => by
    unfold putM
    rw [if_neg (fun z => h (List.mem_cons.mpr (.inl z.symm)))]
    show (ptK e.1, V.int e.2) :: (cellK r ++ _) = (ptK e.1, V.int e.2) :: cellK (putM r p c)
    rw [cell_new p c r fun z => h (List.mem_cons_of_mem _ z)]
theorem cell_put {m : CM} (p : Pt) (c : Int) (nd : (m.map (·.1)).Nodup) : putK (cellK m) (ptK p) (.int c) = cellK (putM m p c) := by
  unfold putK
  rw [valV_any, cell_val]
  cases e : look m p with
  | none => exact cell_new p c m (look_none.mp e)
  | some x =>
    refine cell_map p c m nd (Classical.byContradiction fun n => ?_)
    rw [look_none.mpr n] at e
    cases e
theorem cell_drop (p : Pt) : ∀ (m : CM), (m.map (·.1)).Nodup → dropK (cellK m) (ptK p) = cellK (dropM m p)
  | [], _ => rfl
  | e :: r, nd => by
    rw [List.map_cons, List.nodup_cons] at nd
    unfold dropM
    show dropK ((ptK e.1, V.int e.2) :: cellK r) (ptK p) = _
    by_cases h : e.1 = p
    · rw [if_pos h, dropK_pos (congrArg ptK h)]
      refine dropK_no fun z => ?_
      obtain ⟨y, hy, ey⟩ := List.mem_map.mp z
      obtain ⟨w, hw, rfl⟩ := List.mem_map.mp hy
      have nin : p ∉ r.map (·.1) := h ▸ nd.1
      have ew : w.1 = p := ptK_inj ey
      exact nin (by rw [← ew]; exact List.mem_map.mpr ⟨w, hw, rfl⟩)
    · rw [if_neg h, dropK_neg (fun z => h (ptK_inj z)), cell_drop p r nd.2]
      rfl
/-! ### floors -/
abbrev Sq := Int × Int × Int
def Sq.pt (s : Sq) : Pt := (s.1, s.2.1)
def sqD (s : Sq) : PyData := .tuple [.int s.1, .int s.2.1, .int s.2.2]
def floorD (F : List Sq) : PyData := .tuple (F.map sqD)
def ltP (p q : Pt) : Prop := p.1 < q.1 ∨ (p.1 = q.1 ∧ p.2 < q.2)
theorem ltP_irr (p : Pt) : ¬ ltP p p := fun h => by
  rcases h with h | h <;> omega
theorem ltP_tr {p q r : Pt} (a : ltP p q) (b : ltP q r) : ltP p r := by
  unfold ltP at *
  omega
theorem ltP_tot {p q : Pt} (h : p ≠ q) : ltP p q ∨ ltP q p := by
  by_cases e1 : p.1 = q.1
  · have e2 : p.2 ≠ q.2 := fun e2 => h (Prod.ext e1 e2)
    unfold ltP
    omega
  · unfold ltP
    omega
/-- the floor that is painted so, its squares in their order -/
structure FloorOf (f : Pt → Int) (F : List Sq) : Prop where
  asc : F.Pairwise fun a b => ltP a.pt b.pt
  mem : ∀ s : Sq, s ∈ F ↔ s.2.2 = f s.pt ∧ s.2.2 ≠ 0
theorem asc_eq : ∀ {F G : List Sq}, (F.Pairwise fun a b => ltP a.pt b.pt) → (G.Pairwise fun a b => ltP a.pt b.pt) → (∀ s, s ∈ F ↔ s ∈ G) → F = G
  | [], [], _, _, _ => rfl
  | [], b :: G, _, _, h => nomatch (h b).mpr List.mem_cons_self
  | a :: F, [], _, _, h => nomatch (h a).mp List.mem_cons_self
  | a :: F, b :: G, hF, hG, h => by
    obtain ⟨a1, a2⟩ := List.pairwise_cons.mp hF
    obtain ⟨b1, b2⟩ := List.pairwise_cons.mp hG
    have e : a = b := by
      rcases List.mem_cons.mp ((h a).mp List.mem_cons_self) with e | ha
      · exact e
      · rcases List.mem_cons.mp ((h b).mpr List.mem_cons_self) with e | hb
        · exact e.symm
        · exact absurd (ltP_tr (b1 a ha) (a1 b hb)) (ltP_irr _)
    subst e
    refine congrArg (a :: ·) (asc_eq a2 b2 fun s => ⟨fun hs => ?_, fun hs => ?_⟩)
    · rcases List.mem_cons.mp ((h s).mp (List.mem_cons_of_mem _ hs)) with e | k
      · exact absurd (e ▸ a1 s hs) (ltP_irr _)
      · exact k
    · rcases List.mem_cons.mp ((h s).mpr (List.mem_cons_of_mem _ hs)) with e | k
      · exact absurd (e ▸ b1 s hs) (ltP_irr _)
      · exact k
theorem FloorOf.uniq {f : Pt → Int} {F G : List Sq} (a : FloorOf f F) (b : FloorOf f G) : F = G := asc_eq a.asc b.asc fun s => (a.mem s).trans (b.mem s).symm
/-- the cells of a floor -/
def cellsOf (F : List Sq) : CM := F.map fun s => (s.pt, s.2.2)
theorem asc_nd {F : List Sq} (h : F.Pairwise fun a b => ltP a.pt b.pt) : ((cellsOf F).map (·.1)).Nodup := by
  unfold cellsOf
  rw [List.map_map, List.Nodup, List.pairwise_map]
  refine h.imp fun {a b} l => ?_
  intro (e : a.pt = b.pt)
  rw [← e] at l
  exact ltP_irr _ l
def colF (F : List Sq) (p : Pt) : Int := col (cellsOf F) p
theorem colF_of {F : List Sq} (asc : F.Pairwise fun a b => ltP a.pt b.pt) (nz : ∀ s ∈ F, s.2.2 ≠ 0) : FloorOf (colF F) F := by
  refine ⟨asc, fun s => ⟨fun h => ⟨?_, nz s h⟩, fun h => ?_⟩⟩
  · have e := mem_look (asc_nd asc) (show (s.pt, s.2.2) ∈ cellsOf F from List.mem_map.mpr ⟨s, h, rfl⟩)
    unfold colF col
    rw [e]
    rfl
  · obtain ⟨h1, h2⟩ := h
    unfold colF col at h1
    cases e : look (cellsOf F) s.pt with
    | none =>
      rw [e] at h1
      exact absurd h1 h2
    | some c =>
      rw [e] at h1
      obtain ⟨t, ht, et⟩ := List.mem_map.mp (look_mem e)
      have e1 : t.pt = s.pt := congrArg Prod.fst et
      have e2 : t.2.2 = c := congrArg Prod.snd et
      have e3 : t = s := by
        obtain ⟨x, y, z⟩ := t
        obtain ⟨x', y', z'⟩ := s
        have q1 : x = x' := congrArg Prod.fst e1
        have q2 : y = y' := congrArg Prod.snd e1
        have q3 : z = c := e2
        have q4 : z' = c := h1
        rw [q1, q2, q3, q4]
      exact e3 ▸ ht
theorem FloorOf.col {f : Pt → Int} {F : List Sq} (h : FloorOf f F) : colF F = f := by
  funext p
  have g := colF_of h.asc fun s hs => ((h.mem s).mp hs).2
  by_cases z : f p = 0
  · by_cases y : colF F p = 0
    · rw [y, z]
    · have m := (g.mem (p.1, p.2, colF F p)).mpr ⟨rfl, y⟩
      have q := ((h.mem _).mp m).1
      exact q
  · have m := (h.mem (p.1, p.2, f p)).mpr ⟨rfl, z⟩
    exact (((g.mem _).mp m).1).symm
local macro_rules | `(tactic| walk_at "cl") => `(tactic| first | assumption | omega | exact rfl | exact SqL.of (by assumption) | exact SqT.of (by assumption) | exact SqL.of upd_same | exact SqT.of upd_same | exact upd_same | exact tyx_tup (by assumption) | exact TyX.base (.int _) | exact TyX.base (.str _) | exact TyX.base .non | exact TyX.base (.bl _) | exact tyx_lst (by first | assumption | exact SqL.of (by assumption)) | exact at0 | exact at1 | exact at2 | exact at3 | exact ⟨_, by assumption⟩ | exact ⟨_, rfl⟩ | exact ⟨_, SqL.of (by assumption)⟩ | exact ⟨_, SqL.of upd_same⟩ | exact ⟨_, SqT.of (by assumption)⟩ | exact Nat.le_of_ble_eq_true rfl | exact Or.inl ⟨rfl, _, SqL.of (by assumption)⟩ | exact Or.inl ⟨rfl, _, SqL.of upd_same⟩ | exact Dp.non | exact Dp.int _ | exact Dp.bl _ | exact Dp.str _ | exact True.intro | solve_by_elim | decide)
local macro_rules | `(tactic| walk_at "lp") => `(tactic| (fail_if_success refine Exists.intro (w := (fun (_ : Nat) (_ : Nat) (_ : L2.St) (_ : Hp) => True)) ?_); (fail_if_success refine Exists.intro (w := (fun (_ : Nat) (_ : L2.St) (_ : Hp) => True)) ?_); (fail_if_success refine Exists.intro (w := (fun (_ : Nat) (_ : Nat) (_ : Hp) => True)) ?_))
local macro_rules | `(tactic| walk_at "st") => `(tactic| repeat (first | (apply And.intro; (· walk_at "cl")) | (walk_at "lp"; apply Exists.intro)))
local macro_rules | `(tactic| walk_at "cl") => `(tactic| first | exact sl32 | exact sl42)
def topS (i : Nat) : Stmt := PySem.Challenge.pw_streetpapers_k07_whole_finding.main.body.getD i (.Pass ⟨0, 0, 0, 0⟩)
abbrev s_u_wall : Stmt := topS 1
theorem sc_u_wall : FnScope ["k"] ["k"] (defScope s_u_wall) := ⟨rfl, rfl, rfl, by decide +kernel, rfl, by decide +kernel, by decide +kernel⟩
abbrev s_is_whole : Stmt := topS 13
theorem sc_is_whole : FnScope ["value", "least", "greatest"] ["value", "least", "greatest"] (defScope s_is_whole) := ⟨rfl, rfl, rfl, by decide +kernel, rfl, by decide +kernel, by decide +kernel⟩
abbrev s_is_place : Stmt := topS 14
theorem sc_is_place : FnScope ["value"] ["value"] (defScope s_is_place) := ⟨rfl, rfl, rfl, by decide +kernel, rfl, by decide +kernel, by decide +kernel⟩
abbrev s_check_number : Stmt := topS 15
theorem sc_check_number : FnScope ["value", "least", "greatest"] ["value", "least", "greatest"] (defScope s_check_number) := ⟨rfl, rfl, rfl, by decide +kernel, rfl, by decide +kernel, by decide +kernel⟩
abbrev s_check_place : Stmt := topS 16
theorem sc_check_place : FnScope ["value"] ["value"] (defScope s_check_place) := ⟨rfl, rfl, rfl, by decide +kernel, rfl, by decide +kernel, by decide +kernel⟩
abbrev s_check_table : Stmt := topS 21
theorem sc_check_table : FnScope ["value"] ["value"] (defScope s_check_table) := ⟨rfl, rfl, rfl, by decide +kernel, rfl, by decide +kernel, by decide +kernel⟩
abbrev s_is_table : Stmt := topS 22
theorem sc_is_table : FnScope ["value", "state", "entry"] ["value"] (defScope s_is_table) := ⟨rfl, rfl, rfl, by decide +kernel, rfl, by decide +kernel, by decide +kernel⟩
abbrev s_u_is_entry : Stmt := topS 23
theorem sc_u_is_entry : FnScope ["value", "colours", "states", "paint", "turn", "state"] ["value", "colours", "states"] (defScope s_u_is_entry) := ⟨rfl, rfl, rfl, by decide +kernel, rfl, by decide +kernel, by decide +kernel⟩
abbrev s_check_floor : Stmt := topS 27
theorem sc_check_floor : FnScope ["value", "colours", "index", "square"] ["value", "colours"] (defScope s_check_floor) := ⟨rfl, rfl, rfl, by decide +kernel, rfl, by decide +kernel, by decide +kernel⟩
abbrev s_painted_places : Stmt := topS 28
theorem sc_painted_places : FnScope ["floor", "x", "y", "colour"] ["floor"] (defScope s_painted_places) := ⟨rfl, rfl, rfl, by decide +kernel, rfl, by decide +kernel, by decide +kernel⟩
abbrev s_ground_colour : Stmt := topS 29
theorem sc_ground_colour : FnScope ["ground", "place", "x", "y", "row"] ["ground", "place"] (defScope s_ground_colour) := ⟨rfl, rfl, rfl, by decide +kernel, rfl, by decide +kernel, by decide +kernel⟩
abbrev s_paint_square : Stmt := topS 30
theorem sc_paint_square : FnScope ["painted", "place", "colour"] ["painted", "place", "colour"] (defScope s_paint_square) := ⟨rfl, rfl, rfl, by decide +kernel, rfl, by decide +kernel, by decide +kernel⟩
abbrev s_u_is_square : Stmt := topS 31
theorem sc_u_is_square : FnScope ["value", "colours"] ["value", "colours"] (defScope s_u_is_square) := ⟨rfl, rfl, rfl, by decide +kernel, rfl, by decide +kernel, by decide +kernel⟩
abbrev s_check_stand : Stmt := topS 35
theorem sc_check_stand : FnScope ["table", "floor", "walker"] ["table", "floor", "walker"] (defScope s_check_stand) := ⟨rfl, rfl, rfl, by decide +kernel, rfl, by decide +kernel, by decide +kernel⟩
abbrev s_check_walker : Stmt := topS 36
theorem sc_check_walker : FnScope ["value", "states"] ["value", "states"] (defScope s_check_walker) := ⟨rfl, rfl, rfl, by decide +kernel, rfl, by decide +kernel, by decide +kernel⟩
abbrev s_is_walker : Stmt := topS 37
theorem sc_is_walker : FnScope ["value", "states"] ["value", "states"] (defScope s_is_walker) := ⟨rfl, rfl, rfl, by decide +kernel, rfl, by decide +kernel, by decide +kernel⟩
abbrev s_u_walker_behind : Stmt := topS 39
theorem sc_u_walker_behind : FnScope ["walker", "entry", "x", "y", "heading", "_", "turn", "state", "dx", "dy"] ["walker", "entry"] (defScope s_u_walker_behind) := ⟨rfl, rfl, rfl, by decide +kernel, rfl, by decide +kernel, by decide +kernel⟩
abbrev s_shows_paper : Stmt := topS 42
theorem sc_shows_paper : FnScope ["table", "floor", "walker", "value"] ["table", "floor", "walker", "value"] (defScope s_shows_paper) := ⟨rfl, rfl, rfl, by decide +kernel, rfl, by decide +kernel, by decide +kernel⟩
abbrev s_is_paper : Stmt := topS 43
theorem sc_is_paper : FnScope ["value"] ["value"] (defScope s_is_paper) := ⟨rfl, rfl, rfl, by decide +kernel, rfl, by decide +kernel, by decide +kernel⟩
abbrev s_right_course : Stmt := topS 44
theorem sc_right_course : FnScope ["table", "floor", "walker", "paper", "step", "place", "course"] ["table", "floor", "walker", "paper", "step", "place"] (defScope s_right_course) := ⟨rfl, rfl, rfl, by decide +kernel, rfl, by decide +kernel, by decide +kernel⟩
abbrev s_judged_course : Stmt := topS 45
theorem sc_judged_course : FnScope ["table", "floor", "walker", "paper", "course"] ["table", "floor", "walker", "paper"] (defScope s_judged_course) := ⟨rfl, rfl, rfl, by decide +kernel, rfl, by decide +kernel, by decide +kernel⟩
abbrev s_lane_of : Stmt := topS 47
theorem sc_lane_of : FnScope ["place", "move", "along"] ["place", "move"] (defScope s_lane_of) := ⟨rfl, rfl, rfl, by decide +kernel, rfl, by decide +kernel, by decide +kernel⟩
abbrev s_u_copied : Stmt := topS 48
theorem sc_u_copied : FnScope ["painted", "place"] ["painted"] (defScope s_u_copied) := ⟨rfl, rfl, rfl, by decide +kernel, rfl, by decide +kernel, by decide +kernel⟩
abbrev s_u_repeats_for_ever : Stmt := topS 49
theorem sc_u_repeats_for_ever : FnScope ["painted", "loop", "move", "ground", "lanes", "colours", "place", "lane", "along"] ["painted", "loop", "move", "ground"] (defScope s_u_repeats_for_ever) := ⟨rfl, rfl, rfl, by decide +kernel, rfl, by decide +kernel, by decide +kernel⟩
abbrev s_u_lane_visits : Stmt := topS 50
theorem sc_u_lane_visits : FnScope ["loop", "move", "lanes", "walker", "colour", "paint", "lane", "along", "visits", "read"] ["loop", "move"] (defScope s_u_lane_visits) := ⟨rfl, rfl, rfl, by decide +kernel, rfl, by decide +kernel, by decide +kernel⟩
abbrev s_u_lane_ground : Stmt := topS 51
theorem sc_u_lane_ground : FnScope ["lane", "move", "ground", "many", "along"] ["lane", "move", "ground"] (defScope s_u_lane_ground) := ⟨rfl, rfl, rfl, by decide +kernel, rfl, by decide +kernel, by decide +kernel⟩
abbrev s_u_lane_repeats : Stmt := topS 52
theorem sc_u_lane_repeats : FnScope ["visits", "colours", "own", "places", "here", "there", "read", "ahead", "last", "beyond", "between", "colour", "along"] ["visits", "colours", "own"] (defScope s_u_lane_repeats) := ⟨rfl, rfl, rfl, by decide +kernel, rfl, by decide +kernel, by decide +kernel⟩
abbrev s_find_paper : Stmt := topS 55
theorem sc_find_paper : FnScope ["table", "floor", "walker", "steps", "most"] ["table", "floor", "walker", "steps", "most"] (defScope s_find_paper) := ⟨rfl, rfl, rfl, by decide +kernel, rfl, by decide +kernel, by decide +kernel⟩
abbrev s_found_paper : Stmt := topS 56
theorem sc_found_paper : FnScope ["table", "floor", "walker", "steps", "most", "stroll", "told", "paper"] ["table", "floor", "walker", "steps", "most"] (defScope s_found_paper) := ⟨rfl, rfl, rfl, by decide +kernel, rfl, by decide +kernel, by decide +kernel⟩
abbrev s_soonest : Stmt := topS 57
theorem sc_soonest : FnScope ["table", "floor", "walker", "paper", "course", "stances", "first"] ["table", "floor", "walker", "paper"] (defScope s_soonest) := ⟨rfl, rfl, rfl, by decide +kernel, rfl, by decide +kernel, by decide +kernel⟩
abbrev s_u_stances : Stmt := topS 58
theorem sc_u_stances : FnScope ["told", "walker", "colour", "_"] ["told"] (defScope s_u_stances) := ⟨rfl, rfl, rfl, by decide +kernel, rfl, by decide +kernel, by decide +kernel⟩
abbrev s_u_likely_papers : Stmt := topS 59
theorem sc_u_likely_papers : FnScope ["told", "most", "agree", "papers", "period", "first"] ["told", "most"] (defScope s_u_likely_papers) := ⟨rfl, rfl, rfl, by decide +kernel, rfl, by decide +kernel, by decide +kernel⟩
abbrev s_u_likely_periods : Stmt := topS 60
theorem sc_u_likely_periods : FnScope ["agree", "periods", "period", "multiple", "short"] ["agree"] (defScope s_u_likely_periods) := ⟨rfl, rfl, rfl, by decide +kernel, rfl, by decide +kernel, by decide +kernel⟩
abbrev s_u_agreements : Stmt := topS 61
theorem sc_u_agreements : FnScope ["items", "most", "agree", "left", "right", "shift", "many"] ["items", "most"] (defScope s_u_agreements) := ⟨rfl, rfl, rfl, by decide +kernel, rfl, by decide +kernel, by decide +kernel⟩
abbrev s_law_taken : Stmt := topS 63
theorem sc_law_taken : FnScope ["row", "many", "found", "cell"] ["row", "many"] (defScope s_law_taken) := ⟨rfl, rfl, rfl, by decide +kernel, rfl, by decide +kernel, by decide +kernel⟩
abbrev s_law_pick : Stmt := topS 64
theorem sc_law_pick : FnScope ["row", "things"] ["row", "things"] (defScope s_law_pick) := ⟨rfl, rfl, rfl, by decide +kernel, rfl, by decide +kernel, by decide +kernel⟩
abbrev s_law_known : Stmt := topS 65
theorem sc_law_known : FnScope ["one", "two", "three", "four", "five"] [] (defScope s_law_known) := ⟨rfl, rfl, rfl, by decide +kernel, rfl, by decide +kernel, by decide +kernel⟩
abbrev s_law_signed : Stmt := topS 66
theorem sc_law_signed : FnScope ["row", "most"] ["row", "most"] (defScope s_law_signed) := ⟨rfl, rfl, rfl, by decide +kernel, rfl, by decide +kernel, by decide +kernel⟩
abbrev s_law_some_floor : Stmt := topS 67
theorem sc_law_some_floor : FnScope ["row", "colours", "most", "cells", "turn", "place"] ["row", "colours", "most"] (defScope s_law_some_floor) := ⟨rfl, rfl, rfl, by decide +kernel, rfl, by decide +kernel, by decide +kernel⟩
abbrev s_law_stand : Stmt := topS 68
theorem sc_law_stand : FnScope ["row", "table", "first", "period", "move", "floor", "far"] ["row"] (defScope s_law_stand) := ⟨rfl, rfl, rfl, by decide +kernel, rfl, by decide +kernel, by decide +kernel⟩
abbrev s_law_table : Stmt := topS 69
theorem sc_law_table : FnScope ["row", "states", "colours", "stop", "found", "state", "line", "colour", "entry"] ["row"] (defScope s_law_table) := ⟨rfl, rfl, rfl, by decide +kernel, rfl, by decide +kernel, by decide +kernel⟩
abbrev s_law_walker : Stmt := topS 70
theorem sc_law_walker : FnScope ["row", "table"] ["row", "table"] (defScope s_law_walker) := ⟨rfl, rfl, rfl, by decide +kernel, rfl, by decide +kernel, by decide +kernel⟩
abbrev s_law_ahead : Stmt := topS 71
theorem sc_law_ahead : FnScope ["place", "heading"] ["place", "heading"] (defScope s_law_ahead) := ⟨rfl, rfl, rfl, by decide +kernel, rfl, by decide +kernel, by decide +kernel⟩
abbrev s_law_step : Stmt := topS 72
theorem sc_law_step : FnScope ["table", "cells", "walker", "place", "entry", "heading"] ["table", "cells", "walker"] (defScope s_law_step) := ⟨rfl, rfl, rfl, by decide +kernel, rfl, by decide +kernel, by decide +kernel⟩
abbrev s_law_floor : Stmt := topS 73
theorem sc_law_floor : FnScope ["cells", "place"] ["cells"] (defScope s_law_floor) := ⟨rfl, rfl, rfl, by decide +kernel, rfl, by decide +kernel, by decide +kernel⟩
abbrev s_law_walk : Stmt := topS 74
theorem sc_law_walk : FnScope ["table", "floor", "walker", "many", "cells", "turn", "after", "square"] ["table", "floor", "walker", "many"] (defScope s_law_walk) := ⟨rfl, rfl, rfl, by decide +kernel, rfl, by decide +kernel, by decide +kernel⟩
abbrev s_law : Stmt := topS 75
theorem sc_law : FnScope ["script", "row", "table", "floor", "walker", "known", "first", "period", "move", "steps", "paper", "found", "rows", "end", "step", "stopped", "stands", "again", "tail", "sooner", "k", "square", "one"] ["script"] (defScope s_law) := ⟨rfl, rfl, rfl, by decide +kernel, rfl, by decide +kernel, by decide +kernel⟩
abbrev s_BadFloor_init : Stmt := inClass (topS 5) 0
theorem sc_BadFloor_init : FnScope ["self", "index"] ["self", "index"] (defScope s_BadFloor_init) := ⟨rfl, rfl, rfl, by decide +kernel, rfl, by decide +kernel, by decide +kernel⟩
abbrev s_TooMany_init : Stmt := inClass (topS 10) 0
theorem sc_TooMany_init : FnScope ["self", "most"] ["self", "most"] (defScope s_TooMany_init) := ⟨rfl, rfl, rfl, by decide +kernel, rfl, by decide +kernel, by decide +kernel⟩
abbrev s_Stroll_init : Stmt := inClass (topS 38) 0
theorem sc_Stroll_init : FnScope ["self", "table", "floor", "walker", "ground"] ["self", "table", "floor", "walker", "ground"] (defScope s_Stroll_init) := ⟨rfl, rfl, rfl, by decide +kernel, rfl, by decide +kernel, by decide +kernel⟩
abbrev s_Stroll_colour_of : Stmt := inClass (topS 38) 1
theorem sc_Stroll_colour_of : FnScope ["self", "place"] ["self", "place"] (defScope s_Stroll_colour_of) := ⟨rfl, rfl, rfl, by decide +kernel, rfl, by decide +kernel, by decide +kernel⟩
abbrev s_Stroll_paint : Stmt := inClass (topS 38) 2
theorem sc_Stroll_paint : FnScope ["self", "place", "colour"] ["self", "place", "colour"] (defScope s_Stroll_paint) := ⟨rfl, rfl, rfl, by decide +kernel, rfl, by decide +kernel, by decide +kernel⟩
abbrev s_Stroll_reading : Stmt := inClass (topS 38) 3
theorem sc_Stroll_reading : FnScope ["self"] ["self"] (defScope s_Stroll_reading) := ⟨rfl, rfl, rfl, by decide +kernel, rfl, by decide +kernel, by decide +kernel⟩
abbrev s_Stroll_has_stopped : Stmt := inClass (topS 38) 4
theorem sc_Stroll_has_stopped : FnScope ["self", "state", "colour"] ["self"] (defScope s_Stroll_has_stopped) := ⟨rfl, rfl, rfl, by decide +kernel, rfl, by decide +kernel, by decide +kernel⟩
abbrev s_Stroll_go : Stmt := inClass (topS 38) 5
theorem sc_Stroll_go : FnScope ["self", "many", "told", "_", "place", "colour", "entry"] ["self", "many"] (defScope s_Stroll_go) := ⟨rfl, rfl, rfl, by decide +kernel, rfl, by decide +kernel, by decide +kernel⟩
abbrev s_Course_init : Stmt := inClass (topS 46) 0
theorem sc_Course_init : FnScope ["self", "stroll", "paper", "lead"] ["self", "stroll", "paper"] (defScope s_Course_init) := ⟨rfl, rfl, rfl, by decide +kernel, rfl, by decide +kernel, by decide +kernel⟩
abbrev s_Course_holds : Stmt := inClass (topS 46) 1
theorem sc_Course_holds : FnScope ["self"] ["self"] (defScope s_Course_holds) := ⟨rfl, rfl, rfl, by decide +kernel, rfl, by decide +kernel, by decide +kernel⟩
abbrev s_Course_lasts : Stmt := inClass (topS 46) 2
theorem sc_Course_lasts : FnScope ["self", "step"] ["self", "step"] (defScope s_Course_lasts) := ⟨rfl, rfl, rfl, by decide +kernel, rfl, by decide +kernel, by decide +kernel⟩
abbrev s_Course_near : Stmt := inClass (topS 46) 3
theorem sc_Course_near : FnScope ["self", "step"] ["self", "step"] (defScope s_Course_near) := ⟨rfl, rfl, rfl, by decide +kernel, rfl, by decide +kernel, by decide +kernel⟩
abbrev s_Course_walker_behind : Stmt := inClass (topS 46) 4
theorem sc_Course_walker_behind : FnScope ["self", "step"] ["self", "step"] (defScope s_Course_walker_behind) := ⟨rfl, rfl, rfl, by decide +kernel, rfl, by decide +kernel, by decide +kernel⟩
abbrev s_Course_painted_behind : Stmt := inClass (topS 46) 5
theorem sc_Course_painted_behind : FnScope ["self", "step"] ["self", "step"] (defScope s_Course_painted_behind) := ⟨rfl, rfl, rfl, by decide +kernel, rfl, by decide +kernel, by decide +kernel⟩
abbrev s_Course_colour_behind : Stmt := inClass (topS 46) 6
theorem sc_Course_colour_behind : FnScope ["self", "step", "place"] ["self", "step", "place"] (defScope s_Course_colour_behind) := ⟨rfl, rfl, rfl, by decide +kernel, rfl, by decide +kernel, by decide +kernel⟩
abbrev s_Course_painted_near : Stmt := inClass (topS 46) 7
theorem sc_Course_painted_near : FnScope ["self", "near"] ["self", "near"] (defScope s_Course_painted_near) := ⟨rfl, rfl, rfl, by decide +kernel, rfl, by decide +kernel, by decide +kernel⟩
abbrev s_Course_street_colour : Stmt := inClass (topS 46) 8
theorem sc_Course_street_colour : FnScope ["self", "step", "place"] ["self", "step", "place"] (defScope s_Course_street_colour) := ⟨rfl, rfl, rfl, by decide +kernel, rfl, by decide +kernel, by decide +kernel⟩
/-- what the top has left of built-in names and constants -/
structure Txt (K : PySem.W.Frag) (mg : Str → Option Value) : Prop where
  m_ValueError : mg "ValueError" = none
  m_all : mg "all" = none
  m_any : mg "any" = none
  m_bool : mg "bool" = none
  m_dict : mg "dict" = none
  m_enumerate : mg "enumerate" = none
  m_int : mg "int" = none
  m_isinstance : mg "isinstance" = none
  m_len : mg "len" = none
  m_min : mg "min" = none
  m_range : mg "range" = none
  m_sorted : mg "sorted" = none
  m_tuple : mg "tuple" = none
  m_zip : mg "zip" = none
  m_lcm : mg "lcm" = some (.builtin "math.lcm")
  far : ∃ t, mg "FAR" = some (.int 1000000000000000000000000000000000000000000000000000000000000 t)
  most_states : ∃ t, mg "MOST_STATES" = some (.int 10 t)
  fewest_colours : ∃ t, mg "FEWEST_COLOURS" = some (.int 2 t)
  most_colours : ∃ t, mg "MOST_COLOURS" = some (.int 6 t)
  most_squares : ∃ t, mg "MOST_SQUARES" = some (.int 4000 t)
  most_steps : ∃ t, mg "MOST_STEPS" = some (.int 100000 t)
  ahead : AheadAt K mg
  longest_period : ∃ t, mg "LONGEST_PERIOD" = some (.int 2000 t)
  most_walked : ∃ t, mg "MOST_WALKED" = some (.int 30000 t)
section
variable {P : Program} {w : World} {K : PySem.W.Frag} {mg : Str → Option Value} {base : Heap}
theorem ok_law_taken (T : Txt K mg) (D : DefAt K mg "_law_taken" s_law_taken ["row", "many"]) : Cal P w K mg base CX0 "_law_taken" 1 ["row", "many"] (spTaken K) := by
  refine D.cal sc_law_taken (fun vs H Q E h => ?_) (fun f cdv A outer s H vs Q E hr h => ?_)
  · obtain ⟨r, many, rfl, _⟩ := h
    rfl
  · obtain ⟨r, many, rfl, ⟨t, ns, i, m, c, hrow, hS, hi, hm0, hm1, hc⟩, hp, hb, q⟩ := h
    refine ⟨_, (pss_cons (ps_if (pt_cmpR op_gt (pe_ix (k_ix_list (K := K)) (pv 0) pe_int (fun _ _ => rfl)) pe_int (nomark _)) (pss_cons (ps_set (i := 2) sc_law_taken.nd rfl (Or.inl rfl) (pe_op op_mod (pe_callTy call_int_i (by rfl) T.m_int (by decide +kernel) (pa_cons (pe_ix (k_ix_list (K := K)) (pv 0) pe_int (fun _ _ => rfl)) pa_nil)) (pv 1)))
      (pss_cons (ps_asg (pe_op op_fdivW (pe_ix (k_ix_list (K := K)) (pv 0) pe_int (fun _ _ => rfl)) (pv 1)) (pg_sub (pv 0) pe_int set_list))
      (pss_one (ps_ret (pv 2))))) pss_nil)
      (pss_cons (ps_asg (pe_op op_add (pe_ix (k_ix_list (K := K)) (pv 0) pe_int (fun _ _ => rfl)) pe_int) (pg_sub (pv 0) pe_int set_list))
      (pss_cons (ps_if (pt_cmpR op_gt (pe_ix (k_ix_list (K := K)) (pv 0) pe_int (fun _ _ => rfl)) (pe_callB (k_len_l (K := K)) (by rfl) T.m_len (by decide +kernel) (pa_cons (pe_ix (k_ix_list (K := K)) (pv 0) pe_int (fun _ _ => rfl)) pa_nil)) (nomark _)) (pss_cons (ps_asg (pe_op op_mod (pe_callTy call_int_i (by rfl) T.m_int (by decide +kernel) (pa_cons (pe_op op_add (pe_op op_mul (pe_ix (k_ix_list (K := K)) (pv 0) pe_int (fun _ _ => rfl)) pe_int) pe_int) pa_nil)) pe_int) (pg_sub (pv 0) pe_int set_list))
      (pss_one (ps_ret (pe_op op_mod (pe_callTy call_int_i (by rfl) T.m_int (by decide +kernel) (pa_cons (pe_op op_fdivW (pe_ix (k_ix_list (K := K)) (pv 0) pe_int (fun _ _ => rfl)) pe_int) pa_nil)) (pv 1))))) pss_nil)
      (pss_cons (ps_set (i := 3) sc_law_taken.nd rfl (Or.inl rfl) (pe_ix (k_ix_list (K := K)) (pe_ix (k_ix_list (K := K)) (pv 0) pe_int (fun _ _ => rfl)) (pe_op op_sub (pe_ix (k_ix_list (K := K)) (pv 0) pe_int (fun _ _ => rfl)) pe_int) (fun _ _ => rfl)))
      (pss_cons (ps_asg (pe_op op_mod (pe_callTy call_int_i (by rfl) T.m_int (by decide +kernel) (pa_cons (pe_op op_add (pe_op op_add (pe_op op_mul (pe_ix (k_ix_list (K := K)) (pv 0) pe_int (fun _ _ => rfl)) pe_int) (pv 3)) pe_int) pa_nil)) pe_int) (pg_sub (pv 0) pe_int set_list))
      (pss_cons (ps_if (pt_cmpR op_ge (pv 3) (pe_op op_pow pe_int pe_int) (nomark _)) (pss_one (ps_asg (pe_op op_fdivW (pv 3) (pv 1)) (pg_sub (pv 0) pe_int set_list))) pss_nil)
      (pss_one (ps_ret (pe_op op_mod (pe_callTy call_int_i (by rfl) T.m_int (by decide +kernel) (pa_cons (pv 3) pa_nil)) (pv 1)))))))))), ?_⟩
    have hdiv : ∀ c, CDivW c many := fun c => wide_div hp (show many.natAbs < 2 ^ 250 by omega) (by decide) (by decide)
    have hdiv7 : ∀ c, CDivW c 7 := fun c => ⟨by decide, by decide⟩
    have hmul : ∀ c, CMul c 48271 := fun c => .inr ⟨by decide, by decide⟩
    have hpow : CPow 10 18 := ⟨by decide, by decide, by decide⟩
    have hk : ∀ o, KeepB r H (upd H r o) := fun o => KeepB.put
    have hs := hS.sq
    have hS1 : ∀ o, Scr K (upd H r o) t ns := fun o => hS.mono (TK.lst hrow)
    have hs1 : ∀ o, SqL K (upd H r o) t (ns.map V.int) := fun o => (hS1 o).sq
    have hs2 : ∀ o o', SqL K (upd (upd H r o) r o') t (ns.map V.int) := fun o o' => by rw [upd_upd]; exact hs1 _
    have hmod : ∀ x : Int, 0 ≤ x % 2147483647 ∧ x % 2147483647 < 2147483647 := fun x => ⟨Int.emod_nonneg _ (by decide), Int.emod_lt_of_pos _ (by decide)⟩
    have fin : ∀ (x i' m' c' : Int), 0 ≤ i' → 0 ≤ m' → m' < 2147483647 → 0 ≤ c' → Q (.int (x % many)) (upd H r (.lst [.ref t, .int i', .int m', .int c'])) := fun x i' m' c' h1 h2 h3 h4 =>
      q _ _ (Int.emod_nonneg _ (by omega)) (Int.emod_lt_of_pos _ hp) ⟨t, ns, i', m', c', upd_same, hS1 _, h1, h2, h3, h4⟩ (hk _)
    walk_at "st"
    refine ite2 (fun e => ?_) (fun e => ?_)
    · have e := of_decide_eq_true e
      walk_at "st"
      exact fin c i m (c / many) hi hm0 hm1 (Int.ediv_nonneg hc (by omega))
    · walk_at "st"
      refine ite2 (fun e => ?_) (fun e => ?_)
      · walk_at "st"
        simp only [upd_upd]
        exact fin _ (i + 1) _ c (by omega) (hmod _).1 (hmod _).2 hc
      · have e2 : ¬ ((i + 1 : Int) > ((ns.map V.int).length : Int)) := fun z => e (decide_eq_true z)
        rw [List.length_map] at e2
        have hat : ∃ z, atI (ns.map V.int) (i + 1 - 1) = some (.int z) := by
          obtain ⟨j, rfl⟩ : ∃ j : Nat, i = (j : Int) := ⟨i.toNat, by omega⟩
          have hj : j < ns.length := by omega
          refine ⟨ns[j], ?_⟩
          rw [show ((j : Int) + 1 - 1) = (j : Int) by omega]
          exact atI_nat (by rw [List.getElem?_map, List.getElem?_eq_getElem hj]; rfl)
        obtain ⟨z, hat⟩ := hat
        walk_at "st"
        refine ite2 (fun e => ?_) (fun e => ?_)
        · have e := of_decide_eq_true e
          walk_at "st"
          simp only [upd_upd]
          have hz : (0 : Int) ≤ z := Int.le_trans (by decide) e
          exact fin _ (i + 1) _ _ (by omega) (hmod _).1 (hmod _).2 (Int.ediv_nonneg hz (by omega))
        · walk_at "st"
          simp only [upd_upd]
          exact fin _ (i + 1) _ c (by omega) (hmod _).1 (hmod _).2 hc
end

/-! ### tables -/
abbrev Ent := Option (Int × Int × Int)
def entD : Ent → PyData
  | none => .none
  | some e => .tuple [.int e.1, .int e.2.1, .int e.2.2]
def rowD (r : List Ent) : PyData := .tuple (r.map entD)
def tabD (T : List (List Ent)) : PyData := .tuple (T.map rowD)
def EntOk (c n : Int) : Ent → Prop
  | none => True
  | some e => (0 ≤ e.1 ∧ e.1 < c) ∧ (0 ≤ e.2.1 ∧ e.2.1 < 4) ∧ (0 ≤ e.2.2 ∧ e.2.2 < n)
def TabOk (c n : Nat) (T : List (List Ent)) : Prop := T.length = n ∧ ∀ r ∈ T, r.length = c ∧ ∀ e ∈ r, EntOk c n e
def spTable (K : PySem.W.Frag) : Sp := fun vs H Q _ => ∃ r : Addr, vs = [.ref r] ∧ Row K H r ∧
  ∀ (v : V) (H' : Hp) (c n : Nat) (T : List (List Ent)), 1 ≤ n → n ≤ 2 → 2 ≤ c → c ≤ 3 → TabOk c n T → Tp K H' v (tabD T) → Row K H' r → KeepB r H H' → Q v H'
section
variable {P : Program} {w : World} {K : PySem.W.Frag} {mg : Str → Option Value} {base : Heap}
theorem ok_law_table (T : Txt K mg) (D : DefAt K mg "_law_table" s_law_table ["row"]) (C_law_taken : Cal P w K mg base CX0 "_law_taken" 1 ["row", "many"] (spTaken K)) : Cal P w K mg base CX0 "_law_table" 2 ["row"] (spTable K) := by
  refine D.cal sc_law_table (fun vs H Q E h => ?_) (fun f cdv A outer s H vs Q E hr h => ?_)
  · obtain ⟨r, rfl, _⟩ := h
    rfl
  · obtain ⟨r, rfl, hrow, q⟩ := h
    refine ⟨_, (pss_cons (ps_par3 (i := 1) (j := 2) (l := 3) (by rfl) sc_law_table.nd rfl rfl rfl (by decide) (by decide) (by decide) rfl rfl rfl (pa_cons (pe_op op_add pe_int (pe_own C_law_taken hr (by first | decide | omega) (pa_cons (pv 0) (pa_cons pe_int pa_nil)))) (pa_cons (pe_op op_add pe_int (pe_own C_law_taken hr (by first | decide | omega) (pa_cons (pv 0) (pa_cons pe_int pa_nil)))) (pa_cons (pe_own C_law_taken hr (by first | decide | omega) (pa_cons (pv 0) (pa_cons pe_int pa_nil))) pa_nil))) (by rfl))
      (pss_cons (ps_set (i := 4) sc_law_table.nd rfl (Or.inl rfl) (pe_lst pa_nil))
      (pss_cons (ps_for PassesOwn.never rfl (pi_range1 (by rfl) T.m_range (pa_cons (pv 1) pa_nil)) (pg_name (i := 5) sc_law_table.nd rfl (Or.inl rfl))
      (pss_cons (ps_set (i := 6) sc_law_table.nd rfl (Or.inl rfl) (pe_lst pa_nil))
      (pss_cons (ps_for PassesOwn.never rfl (pi_range1 (by rfl) T.m_range (pa_cons (pv 2) pa_nil)) (pg_name (i := 7) sc_law_table.nd rfl (Or.inl rfl))
      (pss_cons (ps_set (i := 8) sc_law_table.nd rfl (Or.inl rfl) (pe_tup (pa_cons (pe_own C_law_taken hr (by first | decide | omega) (pa_cons (pv 0) (pa_cons (pv 2) pa_nil))) (pa_cons (pe_own C_law_taken hr (by first | decide | omega) (pa_cons (pv 0) (pa_cons pe_int pa_nil))) (pa_cons (pe_own C_law_taken hr (by first | decide | omega) (pa_cons (pv 0) (pa_cons (pv 1) pa_nil))) pa_nil)))))
      (pss_one (ps_expr (pe_bm PySem.F.plainAttrs_list PySem.F.slot_list_append PySem.F.type_list_append mt_append (pv 6) (pa_cons (pe_ifExp (PW.pt (pw_and (pt_cmpR op_eq (pv 3) pe_int (nomark _)) (pw_and1 (pt_cmpR op_eq (pe_own C_law_taken hr (by first | decide | omega) (pa_cons (pv 0) (pa_cons pe_int pa_nil))) pe_int (nomark _))))) pe_non (pv 8)) pa_nil))))))
      (pss_one (ps_expr (pe_bm PySem.F.plainAttrs_list PySem.F.slot_list_append PySem.F.type_list_append mt_append (pv 4) (pa_cons (pe_callTy (k_tuple_l (K := K)) (by rfl) T.m_tuple (by decide +kernel) (pa_cons (pv 6) pa_nil)) pa_nil)))))))
      (pss_one (ps_ret (pe_callTy (k_tuple_l (K := K)) (by rfl) T.m_tuple (by decide +kernel) (pa_cons (pv 4) pa_nil))))))), ?_⟩
    walk_at "st"
    intro n' H1 hn0 hn2 R1 k1
    walk_at "st"
    intro c' H2 hc0 hc2 R2 k2
    walk_at "st"
    intro stop H3 hs0 hs4 R3 k3
    walk_at "st"
    intro p np
    have k03 : KeepB r H H3 := (k1.trans k2).trans k3
    have npr : p ≠ r := R3.ne np
    walk_at "st"
    refine for_range (lo := 0) (n := (1 + n').toNat) (fun i σ H' => Ok (∃ (y5 y6 y7 y8 : Option V) (vs : List V) (rows : List (List Ent)), σ = [some (.ref r), some (.int (1 + n')), some (.int (2 + c')), some (.int stop), some (.ref p), y5, y6, y7, y8] ∧
      rows.length = i ∧ (∀ row ∈ rows, row.length = (2 + c').toNat ∧ ∀ e ∈ row, EntOk (2 + c') (1 + n') e) ∧ H' p = some (.lst vs) ∧ TpAll K H' vs (rows.map rowD) ∧ Row K H' r ∧ KeepB r H3 H')) ?_ ?_ ?_
    · exact ⟨_, _, _, _, [], [], rfl, rfl, fun _ h => absurd h List.not_mem_nil, upd_same, .nil, R3.new np, KeepB.new np⟩
    · rintro i σ H4 hi ⟨y5, y6, y7, y8, vs, rows, rfl, hl, hok, hp, hvs, R4, k4⟩
      walk_at "st"
      intro l nl
      have nlp : l ≠ p := (ne_of_none hp nl).symm
      have nlr : l ≠ r := R4.ne nl
      walk_at "st"
      refine for_range (lo := 0) (n := (2 + c').toNat) (fun j σ H' => Ok (∃ (y7 y8 : Option V) (ws : List V) (row : List Ent), σ = [some (.ref r), some (.int (1 + n')), some (.int (2 + c')), some (.int stop), some (.ref p), some (.int (0 + (i : Int))), some (.ref l), y7, y8] ∧
        row.length = j ∧ (∀ e ∈ row, EntOk (2 + c') (1 + n') e) ∧ H' l = some (.lst ws) ∧ TpAll K H' ws (row.map entD) ∧ H' p = some (.lst vs) ∧ TpAll K H' vs (rows.map rowD) ∧ Row K H' r ∧ KeepB r H3 H')) ?_ ?_ ?_
      · exact ⟨_, _, [], [], rfl, rfl, fun _ h => absurd h List.not_mem_nil, upd_same, .nil, by rw [upd_ne nlp.symm]; exact hp, TpAll.mono (TK.new nl) _ _ hvs, R4.new nl, k4.trans (KeepB.new nl)⟩
      · rintro j σ H5 hj ⟨y7, y8, ws, row, rfl, hrl, hrok, hl5, hws, hp5, hvs5, R5, k5⟩
        walk_at "st"
        intro a1 H6 a10 a11 R6 k6
        walk_at "st"
        intro a2 H7 a20 a21 R7 k7
        walk_at "st"
        intro a3 H8 a30 a31 R8 k8
        walk_at "st"
        intro e ne
        have k58 : KeepB r H5 H8 := (k6.trans k7).trans k8
        have hl8 : H8 l = some (.lst ws) := k58 _ _ nlr hl5
        have hp8 : H8 p = some (.lst vs) := k58 _ _ npr hp5
        have t58 : TK H5 H8 := k58.row R5
        have hsz : ws.length < sizeLine := by
          have z := TpAll.length hws
          rw [List.length_map] at z
          exact small1000 (by omega)
        have hE : EntOk (2 + c') (1 + n') (some (a1, a2, a3)) := ⟨⟨a10, a11⟩, ⟨a20, a21⟩, ⟨a30, a31⟩⟩
        have fin : ∀ (x : V) (en : Ent) (Hx : Hp), EntOk (2 + c') (1 + n') en → Tp K Hx x (entD en) → TK H5 Hx → Hx l = some (.lst ws) → Hx p = some (.lst vs) → Row K Hx r → KeepB r H3 Hx →
            Ok (∃ (y7 y8 : Option V) (ws2 : List V) (row : List Ent), ([some (.ref r), some (.int (1 + n')), some (.int (2 + c')), some (.int stop), some (.ref p), some (.int (0 + (i : Int))), some (.ref l), some (.int (0 + (j : Int))), some (.ref e)] : L2.St) = [some (.ref r), some (.int (1 + n')), some (.int (2 + c')), some (.int stop), some (.ref p), some (.int (0 + (i : Int))), some (.ref l), y7, y8] ∧
            row.length = j + 1 ∧ (∀ e ∈ row, EntOk (2 + c') (1 + n') e) ∧ (upd Hx l (.lst (ws ++ [x]))) l = some (.lst ws2) ∧ TpAll K (upd Hx l (.lst (ws ++ [x]))) ws2 (row.map entD) ∧ (upd Hx l (.lst (ws ++ [x]))) p = some (.lst vs) ∧ TpAll K (upd Hx l (.lst (ws ++ [x]))) vs (rows.map rowD) ∧ Row K (upd Hx l (.lst (ws ++ [x]))) r ∧ KeepB r H3 (upd Hx l (.lst (ws ++ [x])))) := fun x en Hx he hx t5 hlx hpx Rx kx => by
          have tu : TK Hx (upd Hx l (.lst (ws ++ [x]))) := TK.lst hlx
          refine ⟨_, _, ws ++ [x], row ++ [en], rfl, ?_, ?_, upd_same, ?_, ?_, TpAll.mono (t5.trans tu) _ _ hvs5, Rx.put hlx nlr, kx.fresh (k4.back nl nlr)⟩
          · rw [List.length_append, hrl]; rfl
          · intro y hy
            rcases List.mem_append.mp hy with h | h
            · exact hrok y h
            · rw [List.mem_singleton.mp h]; exact he
          · rw [List.map_append]
            exact TpAll.append (TpAll.mono (t5.trans tu) _ _ hws) (.cons (Tp.mono tu _ _ hx) .nil)
          · rw [upd_ne nlp.symm]; exact hpx
        have te : TK H8 (upd H8 e (.tup [.int a1, .int a2, .int a3])) := TK.new ne
        have hl9 : (upd H8 e (.tup [.int a1, .int a2, .int a3])) l = some (.lst ws) := by rw [upd_ne (ne_of_none hl8 ne)]; exact hl8
        have hp9 : (upd H8 e (.tup [.int a1, .int a2, .int a3])) p = some (.lst vs) := by rw [upd_ne (ne_of_none hp8 ne)]; exact hp8
        have R9 : Row K (upd H8 e (.tup [.int a1, .int a2, .int a3])) r := R8.new ne
        have hx9 : Tp K (upd H8 e (.tup [.int a1, .int a2, .int a3])) (.ref e) (entD (some (a1, a2, a3))) := .tup (SqT.of upd_same) (.cons (.int _) (.cons (.int _) (.cons (.int _) .nil)))
        have k39 : KeepB r H3 (upd H8 e (.tup [.int a1, .int a2, .int a3])) := (k5.trans k58).trans (KeepB.new ne)
        walk_at "st"
        refine ite2 (fun e0 => ?_) (fun e0 => ?_)
        · walk_at "st"
          intro b H10 b0 b1 R10 k10
          walk_at "st"
          have hl10 : H10 l = some (.lst ws) := k10 _ _ nlr hl9
          have hp10 : H10 p = some (.lst vs) := k10 _ _ npr hp9
          have t10 : TK (upd H8 e (.tup [.int a1, .int a2, .int a3])) H10 := k10.row R9
          refine ite2 (fun e1 => ?_) (fun e1 => ?_)
          · walk_at "st"
            exact fin _ none _ trivial .non ((t58.trans te).trans t10) hl10 hp10 R10 (k39.trans k10)
          · walk_at "st"
            exact fin _ (some (a1, a2, a3)) _ hE (Tp.mono t10 _ _ hx9) ((t58.trans te).trans t10) hl10 hp10 R10 (k39.trans k10)
        · walk_at "st"
          exact fin _ (some (a1, a2, a3)) _ hE hx9 (t58.trans te) hl9 hp9 R9 k39
      · rintro σ H5 ⟨y7, y8, ws, row, rfl, hrl, hrok, hl5, hws, hp5, hvs5, R5, k5⟩
        have hsz : vs.length < sizeLine := by
          have z := TpAll.length hvs5
          rw [List.length_map] at z
          exact small1000 (by omega)
        walk_at "st"
        intro u nu
        have hp6 : (upd H5 u (.tup ws)) p = some (.lst vs) := by rw [upd_ne (ne_of_none hp5 nu)]; exact hp5
        have R6 : Row K (upd H5 u (.tup ws)) r := R5.new nu
        walk_at "st"
        have tu : TK H5 (upd H5 u (.tup ws)) := TK.new nu
        have tv : TK (upd H5 u (.tup ws)) (upd (upd H5 u (.tup ws)) p (.lst (vs ++ [.ref u]))) := TK.lst hp6
        have hx : Tp K (upd H5 u (.tup ws)) (.ref u) (rowD row) := .tup (SqT.of upd_same) (TpAll.mono tu _ _ hws)
        refine ⟨_, _, _, _, vs ++ [.ref u], rows ++ [row], rfl, ?_, ?_, upd_same, ?_, R6.put hp6 npr, (k5.trans (KeepB.new nu)).fresh np⟩
        · rw [List.length_append, hl]; rfl
        · intro y hy
          rcases List.mem_append.mp hy with h | h
          · exact hok y h
          · rw [List.mem_singleton.mp h]; exact ⟨hrl, hrok⟩
        · rw [List.map_append]
          exact TpAll.append (TpAll.mono (tu.trans tv) _ _ hvs5) (.cons (Tp.mono tv _ _ hx) .nil)
    · rintro σ H4 ⟨y5, y6, y7, y8, vs, rows, rfl, hl, hok, hp, hvs, R4, k4⟩
      walk_at "st"
      intro u nu
      refine q _ _ (2 + c').toNat (1 + n').toNat rows (by omega) (by omega) (by omega) (by omega) ⟨hl, fun row hrow => ?_⟩ (.tup (SqT.of upd_same) (TpAll.mono (TK.new nu) _ _ hvs)) (R4.new nu) ((k03.trans k4).trans (KeepB.new nu))
      obtain ⟨h1, h2⟩ := hok row hrow
      refine ⟨h1, fun e he => ?_⟩
      rw [show (((2 + c').toNat : Nat) : Int) = 2 + c' by omega, show (((1 + n').toNat : Nat) : Int) = 1 + n' by omega]
      exact h2 e he
end

/-! ### walks -/
/-- x, y, heading, state -/
abbrev Wk := Int × Int × Int × Int
def wkD (w : Wk) : PyData := .tuple [.int w.1, .int w.2.1, .int w.2.2.1, .int w.2.2.2]
def wPt (w : Wk) : Pt := (w.1, w.2.1)
def dxI (h : Int) : Int := if h = 1 then 1 else if h = 3 then -1 else 0
def dyI (h : Int) : Int := if h = 0 then -1 else if h = 2 then 1 else 0
def entAt (T : List (List Ent)) (s c : Int) : Ent := ((T[s.toNat]?).bind fun r => r[c.toNat]?).getD none
def dab (f : Pt → Int) (p : Pt) (c : Int) : Pt → Int := fun q => if q = p then c else f q
abbrev WSt := (Pt → Int) × Wk
def turnI (w : Wk) (t : Int) : Int := (w.2.2.1 + t) % 4
def behind (w : Wk) (e : Int × Int × Int) : Wk := (w.1 + dxI (turnI w e.2.1), w.2.1 + dyI (turnI w e.2.1), turnI w e.2.1, e.2.2)
def stepW (T : List (List Ent)) (z : WSt) : Option WSt := (entAt T z.2.2.2.2 (z.1 (wPt z.2))).map fun e => (dab z.1 (wPt z.2) e.1, behind z.2 e)
def runW (T : List (List Ent)) : Nat → WSt → Option WSt
  | 0, z => some z
  | n + 1, z => (runW T n z).bind (stepW T)
structure Ends (T : List (List Ent)) (z : WSt) (many i : Nat) (z' : WSt) : Prop where
  run : runW T i z = some z'
  le : i ≤ many
  stop : i = many ∨ stepW T z' = none
section
variable {T : List (List Ent)}
theorem runW_none {z : WSt} {i : Nat} (h : runW T i z = none) : ∀ k, runW T (i + k) z = none
  | 0 => h
  | k + 1 => by
    show (runW T (i + k) z).bind (stepW T) = none
    rw [runW_none h k]
    rfl
theorem runW_add (z : WSt) (i : Nat) : ∀ j, runW T (i + j) z = (runW T i z).bind (runW T j)
  | 0 => by
    show runW T i z = (runW T i z).bind some
    cases runW T i z <;> rfl
  | j + 1 => by
    show (runW T (i + j) z).bind (stepW T) = _
    rw [runW_add z i j]
    cases runW T i z <;> rfl
theorem Ends.stuck {z z' : WSt} {many i j : Nat} (h : Ends T z many i z') (l : i < j) (m : j ≤ many) : runW T j z = none := by
  have st : stepW T z' = none := h.stop.resolve_left (by omega)
  have n : runW T (i + 1) z = none := by
    show (runW T i z).bind (stepW T) = none
    rw [h.run]
    exact st
  have q := runW_none n (j - (i + 1))
  rw [show i + 1 + (j - (i + 1)) = j by omega] at q
  exact q
theorem Ends.uniq {z z1 z2 : WSt} {many i j : Nat} (a : Ends T z many i z1) (b : Ends T z many j z2) : i = j ∧ z1 = z2 := by
  have e : i = j := by
    rcases Nat.lt_trichotomy i j with l | l | l
    · have q := a.stuck l b.le
      rw [b.run] at q
      cases q
    · exact l
    · have q := b.stuck l a.le
      rw [a.run] at q
      cases q
  subst e
  have q := a.run
  rw [b.run] at q
  exact ⟨rfl, (Option.some.inj q).symm⟩
theorem Ends.two {z z1 z2 : WSt} {many more i j : Nat} (a : Ends T z many i z1) (b : Ends T z1 more j z2) : Ends T z (many + more) (i + j) z2 := by
  refine ⟨?_, Nat.add_le_add a.le b.le, ?_⟩
  · rw [runW_add, a.run]
    exact b.run
  · rcases a.stop with e | st
    · exact b.stop.imp (fun e2 => by rw [e, e2]) id
    · have ej : j = 0 := by
        rcases Nat.eq_zero_or_pos j with q | q
        · exact q
        · have n : runW T (0 + 1) z1 = none := st
          have r := runW_none n (j - 1)
          rw [show 0 + 1 + (j - 1) = j by omega, b.run] at r
          cases r
      subst ej
      have e2 : z1 = z2 := Option.some.inj b.run
      exact .inr (e2 ▸ st)
/-- what goes with every step goes with the walk -/
theorem runW_map {φ : WSt → WSt} (h : ∀ z, stepW T (φ z) = (stepW T z).map φ) (z : WSt) : ∀ i, runW T i (φ z) = (runW T i z).map φ
  | 0 => rfl
  | i + 1 => by
    show (runW T i (φ z)).bind (stepW T) = ((runW T i z).bind (stepW T)).map φ
    rw [runW_map h z i]
    cases runW T i z with
    | none => rfl
    | some y => exact h y
theorem Ends.map {φ : WSt → WSt} (h : ∀ z, stepW T (φ z) = (stepW T z).map φ) {z z' : WSt} {many i : Nat} (a : Ends T z many i z') : Ends T (φ z) many i (φ z') := by
  refine ⟨?_, a.le, a.stop.imp id fun st => ?_⟩
  · rw [runW_map h, a.run]
    rfl
  · rw [h, st]
    rfl
/-! ### a quarter turn, a move -/
def rotP (p : Pt) : Pt := (-p.2, p.1)
def unrotP (p : Pt) : Pt := (p.2, -p.1)
theorem rot_iff {p q : Pt} : q = rotP p ↔ unrotP q = p := by
  obtain ⟨a, b⟩ := p
  obtain ⟨c, d⟩ := q
  unfold rotP unrotP
  constructor
  · intro h
    have h1 : c = -b := congrArg Prod.fst h
    have h2 : d = a := congrArg Prod.snd h
    rw [h1, h2, Int.neg_neg]
  · intro h
    have h1 : d = a := congrArg Prod.fst h
    have h2 : -c = b := congrArg Prod.snd h
    rw [← h1, ← h2, Int.neg_neg]
def rotZ (z : WSt) : WSt := (fun q => z.1 (unrotP q), (-z.2.2.1, z.2.1, (z.2.2.2.1 + 1) % 4, z.2.2.2.2))
theorem dab_rot (f : Pt → Int) (p : Pt) (c : Int) : dab (fun q => f (unrotP q)) (rotP p) c = fun q => dab f p c (unrotP q) := by
  funext q
  unfold dab
  by_cases h : q = rotP p
  · rw [if_pos h, if_pos (rot_iff.mp h)]
  · rw [if_neg h, if_neg (fun z => h (rot_iff.mpr z))]
theorem turn_ax {g : Int} (h0 : 0 ≤ g) (h1 : g < 4) : dxI ((g + 1) % 4) = -dyI g ∧ dyI ((g + 1) % 4) = dxI g := by
  obtain ⟨n, rfl⟩ := Int.eq_ofNat_of_zero_le h0
  have h : n = 0 ∨ n = 1 ∨ n = 2 ∨ n = 3 := by omega
  rcases h with rfl | rfl | rfl | rfl <;> decide
theorem behind_rot (f : Pt → Int) (w : Wk) (e : Int × Int × Int) : behind (rotZ (f, w)).2 e = (rotZ (f, behind w e)).2 := by
  have g0 : 0 ≤ turnI w e.2.1 := Int.emod_nonneg _ (by decide)
  have g1 : turnI w e.2.1 < 4 := Int.emod_lt_of_pos _ (by decide)
  have e1 : turnI (rotZ (f, w)).2 e.2.1 = (turnI w e.2.1 + 1) % 4 := by
    show ((w.2.2.1 + 1) % 4 + e.2.1) % 4 = ((w.2.2.1 + e.2.1) % 4 + 1) % 4
    omega
  obtain ⟨a1, a2⟩ := turn_ax g0 g1
  unfold behind
  rw [e1, a1, a2]
  show (-w.2.1 + -dyI (turnI w e.2.1), w.1 + dxI (turnI w e.2.1), _, _) = (-(w.2.1 + dyI (turnI w e.2.1)), w.1 + dxI (turnI w e.2.1), _, _)
  rw [Int.neg_add]
theorem step_rot (z : WSt) : stepW T (rotZ z) = (stepW T z).map rotZ := by
  obtain ⟨f, w⟩ := z
  have e : (rotZ (f, w)).1 (wPt (rotZ (f, w)).2) = f (wPt w) := by
    show f (unrotP (rotP (wPt w))) = f (wPt w)
    rw [rot_iff.mp rfl]
  show ((entAt T w.2.2.2 ((rotZ (f, w)).1 (wPt (rotZ (f, w)).2))).map _) = ((entAt T w.2.2.2 (f (wPt w))).map _).map rotZ
  rw [e]
  cases entAt T w.2.2.2 (f (wPt w)) with
  | none => rfl
  | some en =>
    show some (dab (fun q => f (unrotP q)) (rotP (wPt w)) en.1, behind (rotZ (f, w)).2 en) = some (rotZ (dab f (wPt w) en.1, behind w en))
    rw [dab_rot, behind_rot f w en]
    rfl
def shiftZ (m : Int) (z : WSt) : WSt := (fun q => z.1 (q.1 - m, q.2), (z.2.1 + m, z.2.2.1, z.2.2.2.1, z.2.2.2.2))
theorem step_shift (m : Int) (z : WSt) : stepW T (shiftZ m z) = (stepW T z).map (shiftZ m) := by
  obtain ⟨f, w⟩ := z
  have e : (shiftZ m (f, w)).1 (wPt (shiftZ m (f, w)).2) = f (wPt w) := by
    show f (w.1 + m - m, w.2.1) = f (wPt w)
    rw [show w.1 + m - m = w.1 by omega]
    rfl
  show ((entAt T w.2.2.2 ((shiftZ m (f, w)).1 (wPt (shiftZ m (f, w)).2))).map _) = ((entAt T w.2.2.2 (f (wPt w))).map _).map (shiftZ m)
  rw [e]
  cases entAt T w.2.2.2 (f (wPt w)) with
  | none => rfl
  | some en =>
    have e1 : dab (fun q : Pt => f (q.1 - m, q.2)) (w.1 + m, w.2.1) en.1 = fun q => dab f (wPt w) en.1 (q.1 - m, q.2) := by
      funext q
      obtain ⟨a, b⟩ := q
      unfold dab wPt
      by_cases h : (a, b) = (w.1 + m, w.2.1)
      · have h1 : a = w.1 + m := congrArg Prod.fst h
        have h2 : b = w.2.1 := congrArg Prod.snd h
        rw [if_pos h, if_pos (by rw [h1, h2, show w.1 + m - m = w.1 by omega])]
      · rw [if_neg h, if_neg (fun z => h ?_)]
        have h1 : a - m = w.1 := congrArg Prod.fst z
        have h2 : b = w.2.1 := congrArg Prod.snd z
        rw [← h1, ← h2, show a - m + m = a by omega]
    have e2 : behind (w.1 + m, w.2.1, w.2.2.1, w.2.2.2) en = ((behind w en).1 + m, (behind w en).2.1, (behind w en).2.2.1, (behind w en).2.2.2) := by
      show (w.1 + m + dxI (turnI w en.2.1), _, _, _) = (w.1 + dxI (turnI w en.2.1) + m, _, _, _)
      rw [Int.add_right_comm]
      rfl
    show some (dab (fun q : Pt => f (q.1 - m, q.2)) (w.1 + m, w.2.1) en.1, behind (w.1 + m, w.2.1, w.2.2.1, w.2.2.2) en) = some (shiftZ m (dab f (wPt w) en.1, behind w en))
    rw [e1, e2]
    rfl
/-! ### how far a walk comes -/
def InB (B : Int) (p : Pt) : Prop := (-B ≤ p.1 ∧ p.1 ≤ B) ∧ (-B ≤ p.2 ∧ p.2 ≤ B)
structure Fit (c n : Nat) (B : Int) (z : WSt) : Prop where
  cols : ∀ p, 0 ≤ z.1 p ∧ z.1 p < c
  near : ∀ p, z.1 p ≠ 0 → InB B p
  wk : InB B (wPt z.2)
  hd : 0 ≤ z.2.2.2.1 ∧ z.2.2.2.1 < 4
  st : 0 ≤ z.2.2.2.2 ∧ z.2.2.2.2 < n
theorem entAt_ok {c n : Nat} (ok : TabOk c n T) {s k : Int} (hs : 0 ≤ s ∧ s < n) (hk : 0 ≤ k ∧ k < c) : ∃ r, T[s.toNat]? = some r ∧ r.length = c ∧ r[k.toNat]? = some (entAt T s k) ∧ EntOk c n (entAt T s k) := by
  have l1 : s.toNat < T.length := by rw [ok.1]; omega
  have m1 : T[s.toNat] ∈ T := List.getElem_mem l1
  obtain ⟨r1, r2⟩ := ok.2 _ m1
  have l2 : k.toNat < (T[s.toNat]).length := by rw [r1]; omega
  have e : entAt T s k = (T[s.toNat])[k.toNat] := by
    unfold entAt
    rw [List.getElem?_eq_getElem l1]
    show (((T[s.toNat])[k.toNat]?).getD none) = _
    rw [List.getElem?_eq_getElem l2]
    rfl
  refine ⟨_, List.getElem?_eq_getElem l1, r1, ?_, ?_⟩
  · rw [e]
    exact List.getElem?_eq_getElem l2
  · rw [e]
    exact r2 _ (List.getElem_mem l2)
theorem InB.mono {B C : Int} {p : Pt} (h : InB B p) (l : B ≤ C) : InB C p := by
  unfold InB at *
  omega
theorem ahead1 (h : Int) : (-1 ≤ dxI h ∧ dxI h ≤ 1) ∧ (-1 ≤ dyI h ∧ dyI h ≤ 1) := by
  unfold dxI dyI
  constructor
  · split
    · omega
    · split <;> omega
  · split
    · omega
    · split <;> omega
theorem Fit.step {c n : Nat} {B : Int} {z z' : WSt} (ok : TabOk c n T) (g : Fit c n B z) (h : stepW T z = some z') : Fit c n (B + 1) z' := by
  obtain ⟨r, _, _, _, eo⟩ := entAt_ok ok g.st (g.cols (wPt z.2))
  unfold stepW at h
  generalize he : entAt T z.2.2.2.2 (z.1 (wPt z.2)) = en at h eo
  cases en with
  | none => cases h
  | some e =>
    obtain rfl := (Option.some.inj h).symm
    obtain ⟨o1, o2, o3⟩ := eo
    have w1 := g.wk
    obtain ⟨a1, a2⟩ := ahead1 (turnI z.2 e.2.1)
    refine ⟨fun p => ?_, fun p hp => ?_, ?_, ⟨Int.emod_nonneg _ (by decide), Int.emod_lt_of_pos _ (by decide)⟩, o3⟩
    · show 0 ≤ (if p = wPt z.2 then e.1 else z.1 p) ∧ (if p = wPt z.2 then e.1 else z.1 p) < c
      split
      · exact o1
      · exact g.cols p
    · have hp : (if p = wPt z.2 then e.1 else z.1 p) ≠ 0 := hp
      split at hp
      · rename_i q
        rw [q]
        exact w1.mono (by omega)
      · exact (g.near p hp).mono (by omega)
    · show InB (B + 1) (z.2.1 + dxI (turnI z.2 e.2.1), z.2.2.1 + dyI (turnI z.2 e.2.1))
      unfold InB wPt at *
      omega
theorem Fit.run {c n : Nat} {B : Int} {z : WSt} (ok : TabOk c n T) (g : Fit c n B z) : ∀ {i : Nat} {z' : WSt}, runW T i z = some z' → Fit c n (B + i) z'
  | 0, z', h => by
    obtain rfl := Option.some.inj h
    rw [show B + ((0 : Nat) : Int) = B by omega]
    exact g
  | i + 1, z', h => by
    have h : (runW T i z).bind (stepW T) = some z' := h
    cases e : runW T i z with
    | none =>
      rw [e] at h
      cases h
    | some y =>
      rw [e] at h
      have q := (g.run ok e).step ok h
      rw [show B + ((i + 1 : Nat) : Int) = B + (i : Int) + 1 by omega]
      exact q
end
/-! ### floors that may be handed in -/
structure FlOk (c : Nat) (B : Int) (F : List Sq) : Prop where
  asc : F.Pairwise fun a b => ltP a.pt b.pt
  sq : ∀ s ∈ F, InB B s.pt ∧ 1 ≤ s.2.2 ∧ s.2.2 < c
theorem FlOk.of {c n : Nat} {B : Int} {z : WSt} {F : List Sq} (g : Fit c n B z) (h : FloorOf z.1 F) : FlOk c B F := by
  refine ⟨h.asc, fun s hs => ?_⟩
  obtain ⟨e, nz⟩ := (h.mem s).mp hs
  have c1 := g.cols s.pt
  rw [e] at nz
  refine ⟨g.near _ nz, ?_, ?_⟩ <;> rw [e] <;> omega
theorem FlOk.fl {c : Nat} {B : Int} {F : List Sq} (h : FlOk c B F) : FloorOf (colF F) F := colF_of h.asc fun s hs => by
  have := (h.sq s hs).2
  omega
theorem FlOk.fit {c n : Nat} {B : Int} {F : List Sq} {w : Wk} (h : FlOk c B F) (hc : 1 ≤ c) (hw : InB B (wPt w)) (hh : 0 ≤ w.2.2.1 ∧ w.2.2.1 < 4) (hs : 0 ≤ w.2.2.2 ∧ w.2.2.2 < n) : Fit c n B (colF F, w) := by
  have f := h.fl
  have at_ : ∀ p, colF F p = 0 ∨ (p.1, p.2, colF F p) ∈ F := fun p => by
    by_cases z : colF F p = 0
    · exact .inl z
    · exact .inr ((f.mem (p.1, p.2, colF F p)).mpr ⟨rfl, z⟩)
  refine ⟨fun p => ?_, fun p hp => ?_, hw, hh, hs⟩
  · show 0 ≤ colF F p ∧ colF F p < c
    rcases at_ p with z | z
    · rw [z]
      omega
    · have q := (h.sq _ z).2
      have q1 : 1 ≤ colF F p ∧ colF F p < c := q
      omega
  · rcases at_ p with z | z
    · exact absurd z hp
    · exact (h.sq _ z).1

/-! ### lists -/
theorem nodup_at {α : Type} {l : List α} (nd : l.Nodup) {i j : Nat} {a : α} (h1 : l[i]? = some a) (h2 : l[j]? = some a) : i = j := by
  obtain ⟨l1, q1⟩ := List.getElem?_eq_some_iff.mp h1
  obtain ⟨l2, q2⟩ := List.getElem?_eq_some_iff.mp h2
  have p := List.pairwise_iff_getElem.mp nd
  rcases Nat.lt_trichotomy i j with z | z | z
  · exact absurd (q1.trans q2.symm) (p i j l1 l2 z)
  · exact z
  · exact absurd (q2.trans q1.symm) (p j i l2 l1 z)
theorem TpAll.set {K : PySem.W.Frag} {H : Hp} : ∀ {vs : List V} {ds : List PyData} {k : Nat} {v : V} {d : PyData}, TpAll K H vs ds → Tp K H v d → TpAll K H (vs.set k v) (ds.set k d)
  | [], [], _, _, _, h, _ => .nil
  | [], _ :: _, _, _, _, h, _ => nomatch h
  | _ :: _, [], _, _, _, h, _ => nomatch h
  | u :: us, e :: es, 0, v, d, h, g => by
    cases h with
    | cons h1 h2 => exact .cons g h2
  | u :: us, e :: es, k + 1, v, d, h, g => by
    cases h with
    | cons h1 h2 => exact .cons h1 (TpAll.set h2 g)
theorem ixN_of {n k : Nat} (h : k < n) : ixN n (0 + ((k : Nat) : Int)) = some k := by
  unfold ixN
  rw [if_pos (by omega), if_pos (by omega)]
  congr 1
  omega
theorem le_only {a b : Int} (h : a ≤ b) : a ≤ b := h
theorem lt_only {a b : Int} (h : a < b) : a < b := h
theorem getD_at {T : List (List Ent)} {s : Nat} {r : List Ent} (h : T[s]? = some r) : T.getD s [] = r := by
  rw [List.getD_eq_getElem?_getD, h]
  rfl
theorem entAt_at {T : List (List Ent)} {s k : Nat} {r : List Ent} {e : Ent} (h : T[s]? = some r) (h2 : r[k]? = some e) : entAt T s k = e := by
  unfold entAt
  rw [Int.toNat_natCast, Int.toNat_natCast, h]
  show (r[k]?).getD none = e
  rw [h2]
  rfl

theorem nodup_sub {α : Type} [DecidableEq α] : ∀ {A B : List α}, A.Nodup → (∀ x ∈ A, x ∈ B) → A.length ≤ B.length
  | [], B, _, _ => Nat.zero_le _
  | a :: r, B, nd, h => by
    have nd := List.nodup_cons.mp nd
    have hb : a ∈ B := h a List.mem_cons_self
    have q := nodup_sub (A := r) (B := B.erase a) nd.2 fun x hx => (List.mem_erase_of_ne fun z => nd.1 (by rw [← z]; exact hx)).mpr (h x (List.mem_cons_of_mem _ hx))
    have l := List.length_erase_of_mem hb
    have p : 0 < B.length := List.length_pos_of_mem hb
    show r.length + 1 ≤ _
    omega

/-! ### two dictionaries by tuples, of ints, are equal -/
section
open PySem.SeqAt
variable {prog : Program} {w : World} {K : Type} [DecidableEq K] {knd : HeapKind prog w K} {A : Around} {E : Value → Shared → Prop} {s : Shared}
inductive HitsH (prog : Program) (w : World) (A : Around) (s : Shared) (kb : List (K × Addr × Value)) : List (K × Addr × Value) → Bool → Prop
  | nil : HitsH prog w A s kb [] true
  | miss {k : K} {a : Addr} {v : Value} {r : List (K × Addr × Value)} : (∀ (j : Nat) (p : Addr × Value), kb[j]? ≠ some (k, p)) → HitsH prog w A s kb ((k, a, v) :: r) false
  | hit {k : K} {a : Addr} {v : Value} {r : List (K × Addr × Value)} {e b : Bool} : (∀ (j : Nat) (p : Addr × Value), kb[j]? = some (k, p) → SeqAt.EqP prog w A s v p.2 e) → (∃ (j : Nat) (p : Addr × Value), kb[j]? = some (k, p)) → HitsH prog w A s kb r b → HitsH prog w A s kb ((k, a, v) :: r) (e && b)
theorem HitsH.inv {kb : List (K × Addr × Value)} {k : K} {a : Addr} {v : Value} {r : List (K × Addr × Value)} {b : Bool} (h : HitsH prog w A s kb ((k, a, v) :: r) b) :
    ((∀ (j : Nat) (p : Addr × Value), kb[j]? ≠ some (k, p)) ∧ b = false) ∨ ∃ e b', (∀ (j : Nat) (p : Addr × Value), kb[j]? = some (k, p) → SeqAt.EqP prog w A s v p.2 e) ∧ (∃ (j : Nat) (p : Addr × Value), kb[j]? = some (k, p)) ∧ HitsH prog w A s kb r b' ∧ b = (e && b') := by
  cases h with
  | miss hn => exact .inl ⟨hn, rfl⟩
  | hit hy he hr => exact .inr ⟨_, _, hy, he, hr, rfl⟩
theorem samePairsH {nm : String} {a b : Addr} {ka kb : List (K × Addr × Value)} {r : Bool} {Q : Bool → Shared → Prop} (ha : (a == sysModules) = false) (hb : (b == sysModules) = false)
    (da : s.heap.DictOfH knd a ka) (db : s.heap.DictOfH knd b kb) (hu : knd.room A) (hits : ka.length = kb.length → HitsH prog w A s kb ka r) (h : Q (ka.length == kb.length && r) s) :
    wpAny (model prog w) A (Builtin.Dict.samePairs nm a b) Q E s := by
  obtain ⟨oa, es, ep, hoa, _, hda, hea, hka, hna⟩ := da
  obtain ⟨ob, es', ep', hob, _, hdb, heb, hkb, hnb⟩ := db
  have hla : ka.length = es.size := (size_of_entries hea).symm
  have hlb : kb.length = es'.size := (size_of_entries heb).symm
  rw [hla, hlb] at h
  unfold Builtin.Dict.samePairs Builtin.Dict.showsAll
  rw [if_neg (show ¬ (a == sysModules) = true by rw [ha]; exact Bool.false_ne_true), if_neg (show ¬ (b == sysModules) = true by rw [hb]; exact Bool.false_ne_true)]
  refine wpAny_bind (wpAny_pure (wpAny_bind (wpAny_pure ?_)))
  refine wpAny_bind (wpAny_dictEntries hoa hda ?_)
  dsimp only
  refine wpAny_bind (wpAny_dictEntries hob hdb ?_)
  by_cases hsz : es.size = es'.size
  case neg =>
    rw [if_pos (by simpa using hsz)]
    have hbf : (es.size == es'.size) = false := by simpa using hsz
    rw [hbf, Bool.false_and] at h
    exact wpAny_bind (wpAny_rule (wpAny_pure h))
  case pos =>
    have h' : Q r s := by simpa [hsz] using h
    have hits' := hits (by rw [hla, hlb]; exact hsz)
    rw [if_neg (by rw [hsz]; simp)]
    refine wpAny_bind (wpAny_dictEpoch hoa hda ?_)
    refine wpAny_bind ?_
    rw [Std.Legacy.Range.forIn_eq_forIn_range']
    simp only [Std.Legacy.Range.size, Nat.sub_zero, Nat.add_sub_cancel, Nat.div_one]
    refine wpAny_forIn_list _
      (fun rest q s' => s' = s ∧ q = (none, ()) ∧ ∃ i, rest = List.range' i (es.size - i) ∧ i ≤ es.size ∧ HitsH prog w A s kb (ka.drop i) r)
      _ ?_ ?_ _ _ ⟨rfl, rfl, 0, by simp, Nat.zero_le _, hits'⟩
    · rintro x rest q s' ⟨rfl, rfl, i, hr, hi, hpre⟩
      have hlt : i < es.size := by
        rcases Nat.lt_or_ge i es.size with h | h
        · exact h
        · rw [Nat.sub_eq_zero_of_le h] at hr; simp at hr
      obtain ⟨rfl, hrest⟩ : x = i ∧ rest = List.range' (i + 1) (es.size - (i + 1)) := by
        have e : es.size - i = (es.size - (i + 1)) + 1 := by omega
        rw [e, List.range'_succ] at hr
        injection hr with h1 h2
        exact ⟨h1, h2⟩
      refine wpAny_bind (wpAny_dictEntries hoa hda ?_)
      have hlt' : x < ka.length := by rw [hla]; exact hlt
      obtain ⟨⟨k, ad, v⟩, hkv⟩ : ∃ y, ka[x] = y := ⟨_, rfl⟩
      have hkv' : ka[x]? = some (k, ad, v) := by rw [List.getElem?_eq_getElem hlt', hkv]
      have hdrop : ka.drop x = (k, ad, v) :: ka.drop (x + 1) := by rw [← hkv]; exact List.drop_eq_getElem_cons hlt'
      have hex : es[x]? = some ⟨knd.hash k, .ref ad, v⟩ := by rw [entry_at hea x, hkv']; rfl
      rw [hex]
      have hkey : knd.is s'.heap k ad := hka _ (List.mem_of_getElem? hkv')
      rw [hdrop] at hpre
      refine wpAny_bind (wpAny_holding (wpAny_bind (wpAny_dictFind_heap hu hkey hob hdb heb hkb hnb (fun hno => ?_) (fun j p hj => ?_))))
      · rcases hpre.inv with ⟨_, er⟩ | ⟨_, _, _, ⟨j, p, hj⟩, _⟩
        · rw [er] at h'
          refine wpAny_pure ?_
          show wpAny _ _ (if (!false) = true then _ else _) _ _ _
          rw [if_pos (by decide)]
          exact wpAny_pure (wpAny_pure h')
        · exact absurd hj (hno j p)
      · have hex2 : es'[j]? = some ⟨knd.hash k, .ref p.1, p.2⟩ := by rw [entry_at heb j, hj]; rfl
        refine wpAny_bind (wpAny_dictEntries hob hdb ?_)
        rw [hex2]
        rcases hpre.inv with ⟨hn, _⟩ | ⟨e, b', he, _, hrr, er⟩
        · exact absurd hj (hn j p)
        · refine wpAny_holding (he j p hj _ _ ?_)
          cases e with
          | false =>
            rw [er, Bool.false_and] at h'
            show wpAny _ _ (if (!false) = true then _ else _) _ _ _
            rw [if_pos (by decide)]
            exact wpAny_pure (wpAny_pure h')
          | true =>
            rw [Bool.true_and] at er
            rw [← er] at hrr
            show wpAny _ _ (if (!true) = true then _ else _) _ _ _
            rw [if_neg (by decide)]
            refine wpAny_bind (wpAny_dictEpoch hoa hda ?_)
            rw [if_neg (by simp)]
            exact wpAny_pure ⟨rfl, rfl, x + 1, hrest, hlt, hrr⟩
    · rintro q s' ⟨rfl, rfl, i, hr, hi, hpre⟩
      have hin : i = es.size := by
        rcases Nat.lt_or_ge i es.size with h | h
        · have e : es.size - i = (es.size - (i + 1)) + 1 := by omega
          rw [e, List.range'_succ] at hr; exact nomatch hr
        · exact Nat.le_antisymm hi h
      refine wpAny_pure ?_
      rw [hin, ← hla, List.drop_length] at hpre
      cases hpre
      exact h'
theorem rcP_dictsH {a b : Addr} {ka kb : List (K × Addr × Value)} {r : Bool} (ha : (a == sysModules) = false) (hb : (b == sysModules) = false)
    (da : s.heap.DictOfH knd a ka) (db : s.heap.DictOfH knd b kb) (hu : A.units < cLine) (hu1 : knd.room A.in1) (hits : ka.length = kb.length → HitsH prog w A.in1 s kb ka r) (E Q : Value → Shared → Prop) (h : Q (.bool (ka.length == kb.length && r)) s) : wpAny (model prog w) A (richCompare .Eq (.ref a) (.ref b)) Q E s := by
  refine wpAny_richCompare_same_room (op := .Eq) da.typeIs db.typeIs PySem.F.slot_dict_eq (wpAny_call_entry PySem.F.slot_dict_eq da.typeIs PySem.F.entry_dict_eq ?_ (PySem.F.args_dict_eq_2 _ _)) hu
  show wpAny _ _ (Builtin.Dict.dictSlotArgs "__eq__" ⟨[.ref a, .ref b], []⟩ >>= _) _ _ s
  refine wpAny_bind ?_
  unfold Builtin.Dict.dictSlotArgs
  refine wpAny_bind (wpAny_notOrdered_dict da.typeIs ?_)
  show wpAny _ _ (pure (Value.ref a, Value.ref b)) _ _ s
  refine wpAny_pure ?_
  refine wpAny_bind (wpAny_isInstance (T := "dict") db.typeIs PySem.F.sub_dict_dict ?_)
  simp only [Bool.not_true, Bool.false_eq_true, if_false]
  refine wpAny_bind (wpAny_pure (wpAny_bind (wpAny_pure ?_)))
  refine wpAny_bind (samePairsH ha hb da db hu1 hits ?_)
  refine wpAny_pure ⟨_, rfl, ?_, ?_⟩
  · exact fun x => nomatch x
  · simpa using h
end
theorem atKey_at {xs : List (List Key × Addr × Value)} {k : List Key} : (∀ (j : Nat) (p : Addr × Value), xs[j]? ≠ some (k, p)) ∨ ∃ p, atKey xs k = some p ∧ ∃ j : Nat, xs[j]? = some (k, p) := by
  cases e : xs.find? (fun x => decide (x.1 = k)) with
  | none =>
    refine .inl fun j p h => ?_
    have z := List.find?_eq_none.mp e _ (List.mem_of_getElem? h)
    exact z (decide_eq_true rfl)
  | some x =>
    have h1 : x.1 = k := by
      have z := List.find?_some e
      exact of_decide_eq_true z
    have h2 := List.mem_of_find?_eq_some e
    obtain ⟨j, hj⟩ := List.getElem?_of_mem h2
    refine .inr ⟨x.2, ?_, j, ?_⟩
    · unfold atKey
      rw [e]
      rfl
    · rw [hj, ← h1]
/-- the rows of the first, looked for in the second -/
theorem hitsH_run {P : Program} {w : World} {A : Around} {s : Shared} {H : Hp} {ls : List (List Key × V)} {vb : List (List Key × Addr × Value)} (rb : KT H ls vb) (nb : (vb.map (·.1)).Nodup) (ib : ∀ p ∈ ls, ∃ i, p.2 = V.int i) :
    ∀ {ks : List (List Key × V)} {va : List (List Key × Addr × Value)}, KT H ks va → (∀ p ∈ ks, ∃ i, p.2 = V.int i) → ∃ r, HitsH P w A s vb va r ∧ (r = true ↔ ∀ p ∈ ks, valV ls p.1 = some p.2) := by
  intro ks va ra
  unfold KT at ra
  induction ra with
  | nil => exact fun _ => ⟨true, .nil, ⟨fun _ p hp => (nomatch hp), fun _ => rfl⟩⟩
  | @cons p q ps qs h t ih =>
    intro hi
    obtain ⟨h1, h0, h2⟩ := h
    obtain ⟨k, v⟩ := p
    obtain ⟨k', ad, u⟩ := q
    obtain rfl : k = k' := h1
    obtain ⟨i, rfl⟩ : ∃ i, v = V.int i := hi _ List.mem_cons_self
    obtain ⟨tk, rfl⟩ : ∃ t, u = .int i t := h2
    obtain ⟨r, hr, er⟩ := ih fun p hp => hi p (List.mem_cons_of_mem _ hp)
    rcases atKey_at (xs := vb) (k := k) with no | ⟨p, ep, j, hj⟩
    · refine ⟨false, .miss no, (⟨(fun z => absurd z Bool.false_ne_true), (fun z => ?_)⟩ : _ ↔ _)⟩
      have z := z _ List.mem_cons_self
      have c := rb.val k
      rw [show valV ls k = some (V.int i) from z] at c
      obtain ⟨y, hy, _⟩ := c.some_of
      cases e : atKey vb k with
      | none =>
        rw [e] at hy
        cases hy
      | some p =>
        rcases atKey_at (xs := vb) (k := k) with no2 | ⟨p2, _, j2, hj2⟩
        · unfold atKey at e
          cases e2 : vb.find? (fun x => decide (x.1 = k)) with
          | none =>
            rw [e2] at e
            cases e
          | some x =>
            obtain ⟨j3, hj3⟩ := List.getElem?_of_mem (List.mem_of_find?_eq_some e2)
            have h5 : x.1 = k := by
              have z := List.find?_some e2
              exact of_decide_eq_true z
            exact absurd (by rw [hj3, ← h5]) (no j3 x.2)
        · exact absurd hj2 (no j2 p2)
    · have c := rb.val k
      rw [ep] at c
      cases ev : valV ls k with
      | none =>
        rw [ev] at c
        exact False.elim c
      | some y =>
        rw [ev] at c
        obtain ⟨m, rfl⟩ : ∃ m, y = V.int m := by
          obtain ⟨j4, h4⟩ : ∃ q ∈ ls, q.2 = y := by
            have z := ev
            unfold valV at z
            cases e2 : ls.find? (fun kv => decide (kv.1 = k)) with
            | none =>
              rw [e2] at z
              cases z
            | some q =>
              rw [e2] at z
              exact ⟨q, List.mem_of_find?_eq_some e2, Option.some.inj z⟩
          obtain ⟨m, hm⟩ := ib j4 h4.1
          exact ⟨m, by rw [← h4.2, hm]⟩
        obtain ⟨tm, em⟩ : ∃ t, p.2 = .int m t := c
        have eqp : SeqAt.EqP P w A s (.int i tk) p.2 (PyData.eqv (.int i) (.int m)) := by
          rw [em]
          exact (PySem.W.keq_flat (fun _ => .int _ _) (fun _ => .int _ _)).eqP
        have uniq : ∀ (j' : Nat) (p' : Addr × Value), vb[j']? = some (k, p') → p' = p := fun j' p' hj' => by
          have q1 : (vb.map (·.1))[j]? = some k := by rw [List.getElem?_map, hj]; rfl
          have q2 : (vb.map (·.1))[j']? = some k := by rw [List.getElem?_map, hj']; rfl
          have ee := nodup_at nb q1 q2
          rw [← ee, hj] at hj'
          exact (Prod.mk.inj (Option.some.inj hj')).2.symm
        refine ⟨_, .hit (e := PyData.eqv (.int i) (.int m)) (fun j' p' hj' => by rw [uniq j' p' hj']; exact eqp) ⟨j, p, hj⟩ hr, ?_⟩
        have e1 : PyData.eqv (.int i) (.int m) = decide (i = m) := by
          rw [show PyData.eqv (.int i) (.int m) = (i == m) from by simp [PyData.eqv]]
          exact Bool.eq_iff_iff.mpr (by simp)
        rw [Bool.and_eq_true, er, e1, decide_eq_true_eq]
        constructor
        · rintro ⟨rfl, z⟩ p hp
          rcases List.mem_cons.mp hp with rfl | hp
          · exact ev
          · exact z p hp
        · intro z
          have z0 := z _ List.mem_cons_self
          rw [show valV ls k = some (V.int m) from ev] at z0
          cases z0
          exact ⟨rfl, fun p hp => z p (List.mem_cons_of_mem _ hp)⟩
/-- d == e, two dictionaries by tuples -/
def rEqT : R2 := fun x y H Q => ∃ a b ka kb, x = .ref a ∧ y = .ref b ∧ H a = some (.dT ka) ∧ H b = some (.dT kb) ∧ (∀ p ∈ ka, ∃ i, p.2 = V.int i) ∧ (∀ p ∈ kb, ∃ i, p.2 = V.int i) ∧ ∀ r : Bool, (r = true ↔ ka.length = kb.length ∧ ∀ p ∈ ka, valV kb p.1 = some p.2) → Q (.bl r) H
theorem op_eqT {X : Cx} (hu : X.A.units + 64 < cLine) : OpR X (compareOp .Eq) rEqT := by
  intro pins s σ H x y v u Q I rx ry h
  obtain ⟨a, b, ka, kb, rfl, rfl, ha, hb, ia, ib, q⟩ := h
  cases (show v = Value.ref a from rx)
  cases (show u = Value.ref b from ry)
  obtain ⟨_, ya, va, ra, da⟩ := dt_of I.hok ha
  obtain ⟨_, yb, vb, rb, db⟩ := dt_of I.hok hb
  have nb : (vb.map (·.1)).Nodup := by
    obtain ⟨_, _, _, _, _, _, _, _, n⟩ := db
    exact n
  obtain ⟨r, hr, er⟩ := hitsH_run (P := X.prog) (w := X.w) (A := X.A.in1) (s := s) rb nb ib ra ia
  refine rcP_dictsH (r := r) ya yb da db (by omega) (by show X.A.units + 1 < cLine; omega) (fun _ => hr) _ _ ⟨.bl _, H, I, rfl, q _ ?_⟩
  rw [Bool.and_eq_true, er, beq_iff_eq, ← ra.length, ← rb.length]

-- imports KE.DataEq
/-! ### data of tuples and ints is equal to itself -/
def flatT : Nat → PyData → Prop
  | n + 1, .tuple ds => ∀ d ∈ ds, flatT n d
  | _ + 1, .int _ => True
  | _, _ => False
theorem layAll : ∀ {ds : List PyData}, (∀ d ∈ ds, d.canLay0 = true) → PyData.canLayAll0 ds = true
  | [], _ => by simp only [PyData.canLayAll0]
  | d :: ds, h => by
    simp only [PyData.canLayAll0, h d List.mem_cons_self, layAll fun y hy => h y (List.mem_cons_of_mem _ hy), Bool.and_self]
theorem depAll {n : Nat} : ∀ {ds : List PyData}, (∀ d ∈ ds, d.depth ≤ n) → PyData.depthAll ds ≤ n
  | [], _ => by simp [PyData.depthAll]
  | d :: ds, h => by
    have h1 := h d List.mem_cons_self
    have h2 := depAll fun y hy => h y (List.mem_cons_of_mem _ hy)
    simp only [PyData.depthAll]
    omega
theorem flatT.lay : ∀ {n : Nat} {d : PyData}, flatT n d → d.canLay0 = true ∧ d.depth ≤ n
  | 0, _, h => absurd h (by unfold flatT; simp)
  | n + 1, .tuple ds, h => by
    have h : ∀ d ∈ ds, flatT n d := h
    refine ⟨?_, ?_⟩
    · simp only [PyData.canLay0]
      exact layAll fun d hd => (flatT.lay (h d hd)).1
    · have := depAll fun d hd => (flatT.lay (h d hd)).2
      simp only [PyData.depth]
      omega
  | n + 1, .int _, _ => by simp [PyData.canLay0, PyData.depth]
  | _ + 1, .none, h => nomatch h
  | _ + 1, .bool _, h => nomatch h
  | _ + 1, .str _, h => nomatch h
  | _ + 1, .list _, h => nomatch h
  | _ + 1, .dict _, h => nomatch h
theorem flatT.shp {n : Nat} {d : PyData} (h : flatT n d) (l : n ≤ 64) : SeqAt.shaped d = true ∧ PyData.eqv d d = true := by
  obtain ⟨h1, h2⟩ := h.lay
  refine ⟨?_, SeqAt.eqv_refl_plain d (PyData.plain_of_canLay0 d h1)⟩
  unfold SeqAt.shaped
  rw [h1, decide_eq_true (Nat.le_trans h2 l)]
  rfl

/-! ### is it a table? -/
def entB (c n : Int) : Ent → Bool
  | none => true
  | some e => (decide (0 ≤ e.1) && decide (e.1 ≤ c - 1)) && ((decide (0 ≤ e.2.1) && decide (e.2.1 ≤ 3)) && (decide (0 ≤ e.2.2) && decide (e.2.2 ≤ n - 1)))
def tabB : List (List Ent) → Bool
  | [] => false
  | r0 :: rs => decide ((r0 :: rs).length ≤ 10) && (((r0 :: rs).all fun r => decide (r.length = r0.length) && r.all (entB r.length (r0 :: rs).length)) && (decide (2 ≤ r0.length) && decide (r0.length ≤ 6)))
def spWhole : Sp := fun vs H Q _ => ∃ v lo hi : Int, vs = [.int v, .int lo, .int hi] ∧ Q (.bl (decide (lo ≤ v) && decide (v ≤ hi))) H
def spEntry (K : PySem.W.Frag) : Sp := fun vs H Q _ => ∃ (v : V) (c n : Int) (e : Ent), vs = [v, .int c, .int n] ∧ Tp K H v (entD e) ∧ Q (.bl (entB c n e)) H
def spIsTable (K : PySem.W.Frag) : Sp := fun vs H Q _ => ∃ (v : V) (T : List (List Ent)), vs = [v] ∧ Tp K H v (tabD T) ∧ T.length ≤ 1000 ∧ (∀ r ∈ T, r.length ≤ 1000) ∧ ∀ H', Same H H' → Q (.bl (tabB T)) H'
section
variable {P : Program} {w : World} {K : PySem.W.Frag} {mg : Str → Option Value} {base : Heap}
theorem ok_is_whole (T : Txt K mg) (D : DefAt K mg "is_whole" s_is_whole ["value", "least", "greatest"]) : Cal P w K mg base CX0 "is_whole" 1 ["value", "least", "greatest"] spWhole := by
  refine D.cal sc_is_whole (fun vs H Q E h => ?_) (fun f cdv A outer s H vs Q E hr h => ?_)
  · obtain ⟨v, lo, hi, rfl, _⟩ := h
    rfl
  · obtain ⟨v, lo, hi, rfl, q⟩ := h
    refine ⟨_, (pss_cons (ps_if (PW.pt (pw_or (pt_not (pt_val (pe_callB (k_isN (K := K)) (by rfl) T.m_isinstance (by decide +kernel) (pa_cons (pv 0) (pa_cons (pe_ty "int" (by rfl) T.m_int (by decide +kernel)) pa_nil))))) (pw_or1 (pt_val (pe_callB (k_isN (K := K)) (by rfl) T.m_isinstance (by decide +kernel) (pa_cons (pv 0) (pa_cons (pe_ty "bool" (by rfl) T.m_bool (by decide +kernel)) pa_nil))))))) (pss_one (ps_ret pe_bl)) pss_nil)
      (pss_one (ps_ret (pe_chain op_le op_le (pv 1) (pv 0) (pv 2))))), ?_⟩
    walk_at "st"
    refine ite2 (fun e => ?_) (fun e => ?_)
    · walk_at "st"
      rw [e, Bool.true_and] at q
      exact q
    · rw [Bool.eq_false_iff.mpr e, Bool.false_and] at q
      exact q
theorem ok_u_is_entry (T : Txt K mg) (D : DefAt K mg "_is_entry" s_u_is_entry ["value", "colours", "states"]) (C_is_whole : Cal P w K mg base CX0 "is_whole" 1 ["value", "least", "greatest"] spWhole) : Cal P w K mg base CX0 "_is_entry" 2 ["value", "colours", "states"] (spEntry K) := by
  refine D.cal sc_u_is_entry (fun vs H Q E h => ?_) (fun f cdv A outer s H vs Q E hr h => ?_)
  · obtain ⟨v, c, n, e, rfl, _⟩ := h
    rfl
  · obtain ⟨v, c, n, e, rfl, hv, q⟩ := h
    refine ⟨_, (pss_cons (ps_if (pt_cmpR op_isN (pv 0) pe_non (nomark _)) (pss_one (ps_ret pe_bl)) pss_nil)
      (pss_cons (ps_if (PW.pt (pw_or (pt_not (pt_val (pe_callB (k_isN (K := K)) (by rfl) T.m_isinstance (by decide +kernel) (pa_cons (pv 0) (pa_cons (pe_ty "tuple" (by rfl) T.m_tuple (by decide +kernel)) pa_nil))))) (pw_or1 (pt_cmpR op_ne (pe_callB (k_len_t (K := K)) (by rfl) T.m_len (by decide +kernel) (pa_cons (pv 0) pa_nil)) pe_int (nomark _))))) (pss_one (ps_ret pe_bl)) pss_nil)
      (pss_cons (ps_asg (pv 0) (pg_tup (by rfl) (pgs_cons (pg_name (i := 3) sc_u_is_entry.nd rfl (Or.inl rfl)) (pgs_cons (pg_name (i := 4) sc_u_is_entry.nd rfl (Or.inl rfl)) (pgs_cons (pg_name (i := 5) sc_u_is_entry.nd rfl (Or.inl rfl)) pgs_nil)))))
      (pss_one (ps_ret (pe_and (pe_own C_is_whole hr (by first | decide | omega) (pa_cons (pv 3) (pa_cons pe_int (pa_cons (pe_op op_sub (pv 1) pe_int) pa_nil)))) (pe_and (pe_own C_is_whole hr (by first | decide | omega) (pa_cons (pv 4) (pa_cons pe_int (pa_cons pe_int pa_nil)))) (pe_one (pe_own C_is_whole hr (by first | decide | omega) (pa_cons (pv 5) (pa_cons pe_int (pa_cons (pe_op op_sub (pv 2) pe_int) pa_nil)))))))))))), ?_⟩
    cases e with
    | none =>
      obtain rfl := hv.nonI
      walk_at "st"
      exact q
    | some e =>
      obtain ⟨a, rfl, hs⟩ := hv.int3
      walk_at "st"
      have q : Q (.bl ((decide (0 ≤ e.1) && decide (e.1 ≤ c - 1)) && ((decide (0 ≤ e.2.1) && decide (e.2.1 ≤ 3)) && (decide (0 ≤ e.2.2) && decide (e.2.2 ≤ n - 1))))) H := q
      refine ite2 (fun e1 => ?_) (fun e1 => ?_)
      · walk_at "st"
        rw [e1, Bool.true_and] at q
        refine ite2 (fun e2 => ?_) (fun e2 => ?_)
        · walk_at "st"
          rw [e2, Bool.true_and] at q
          exact q
        · rw [Bool.eq_false_iff.mpr e2, Bool.false_and] at q
          exact q
      · rw [Bool.eq_false_iff.mpr e1, Bool.false_and] at q
        exact q
theorem ok_is_table (T : Txt K mg) (D : DefAt K mg "is_table" s_is_table ["value"]) (C_is_entry : Cal P w K mg base CX0 "_is_entry" 2 ["value", "colours", "states"] (spEntry K)) : Cal P w K mg base CX0 "is_table" 3 ["value"] (spIsTable K) := by
  refine D.cal sc_is_table (fun vs H Q E h => ?_) (fun f cdv A outer s H vs Q E hr h => ?_)
  · obtain ⟨v, T, rfl, _⟩ := h
    rfl
  · obtain ⟨v, Tb, rfl, hv, hl, hr1, q⟩ := h
    refine ⟨_, (pss_cons (ps_if (PW.pt (pw_or (pt_not (pt_val (pe_callB (k_isN (K := K)) (by rfl) T.m_isinstance (by decide +kernel) (pa_cons (pv 0) (pa_cons (pe_ty "tuple" (by rfl) T.m_tuple (by decide +kernel)) pa_nil))))) (pw_or1 (pt_not (pt_chain op_le op_le pe_int (pe_callB (k_len_t (K := K)) (by rfl) T.m_len (by decide +kernel) (pa_cons (pv 0) pa_nil)) (pe_gint (by rfl) T.most_states)))))) (pss_one (ps_ret pe_bl)) pss_nil)
      (pss_cons (ps_for PassesOwn.never rfl (k_pi_tup (K := K) (pv 0)) (pg_name (i := 1) sc_is_table.nd rfl (Or.inr rfl))
      (pss_cons (ps_if (PW.pt (pw_or (pt_not (pt_val (pe_callB (k_isN (K := K)) (by rfl) T.m_isinstance (by decide +kernel) (pa_cons (pv 1) (pa_cons (pe_ty "tuple" (by rfl) T.m_tuple (by decide +kernel)) pa_nil))))) (pw_or1 (pt_cmpR op_ne (pe_callB (k_len_t (K := K)) (by rfl) T.m_len (by decide +kernel) (pa_cons (pv 1) pa_nil)) (pe_callB (k_len_t (K := K)) (by rfl) T.m_len (by decide +kernel) (pa_cons (pe_ix (k_ix_tup (K := K)) (pv 0) pe_int (fun _ _ => rfl)) pa_nil)) (nomark _))))) (pss_one (ps_ret pe_bl)) pss_nil)
      (pss_one (ps_if (pt_not (pt_val (pe_callB (k_all (K := K) rfl) (by rfl) T.m_all (by decide +kernel) (pa_cons (pe_lc (own := [("entry", 2)]) (g := gName 2) rfl sc_is_table.nd (k_pi_tup (K := K) (pv 1)) (blkOk_by (by rfl)) (fun _ _ _ _ _ => (pg_name (i := 2) sc_is_table.nd rfl (Or.inl rfl))) (fun _ _ _ _ _ => pts_nil) (fun _ _ _ _ _ => (pe_own C_is_entry hr (by first | decide | omega) (pa_cons (pv 2) (pa_cons (pe_callB (k_len_t (K := K)) (by rfl) T.m_len (by decide +kernel) (pa_cons (pv 1) pa_nil)) (pa_cons (pe_callB (k_len_t (K := K)) (by rfl) T.m_len (by decide +kernel) (pa_cons (pv 0) pa_nil)) pa_nil)))))) pa_nil)))) (pss_one (ps_ret pe_bl)) pss_nil))))
      (pss_one (ps_ret (pe_chain op_le op_le (pe_gint (by rfl) T.fewest_colours) (pe_callB (k_len_t (K := K)) (by rfl) T.m_len (by decide +kernel) (pa_cons (pe_ix (k_ix_tup (K := K)) (pv 0) pe_int (fun _ _ => rfl)) pa_nil)) (pe_gint (by rfl) T.most_colours)))))), ?_⟩
    obtain ⟨a, vs, rfl, hs, hvs⟩ := hv.tupI
    have hlen : vs.length = Tb.length := by rw [TpAll.length hvs, List.length_map]
    cases Tb with
    | nil =>
      obtain rfl := hvs.nilI
      walk_at "st"
      exact q H (Same.refl H)
    | cons r0 rs =>
      obtain ⟨v0, vr, rfl, h0, hvr⟩ := hvs.consI
      obtain ⟨a0, w0, rfl, hs0, hw0⟩ := h0.tupI
      have hl0 : w0.length = r0.length := by rw [TpAll.length hw0, List.length_map]
      have q : ∀ H', Same H H' → Q (.bl (decide ((r0 :: rs).length ≤ 10) && (((r0 :: rs).all fun r => decide (r.length = r0.length) && r.all (entB r.length (r0 :: rs).length)) && (decide (2 ≤ r0.length) && decide (r0.length ≤ 6))))) H' := q
      have hT : TpAll K H (V.ref a0 :: vr) ((r0 :: rs).map rowD) := hvs
      generalize hTb : (r0 :: rs) = Tb at *
      generalize hVs : (V.ref a0 :: vr) = vs at *
      have hat : atI vs (0 : Int) = some (.ref a0) := by rw [← hVs]; exact at0
      have hpos : 0 < vs.length := by rw [← hVs]; exact Nat.succ_pos _
      walk_at "st"
      refine ite2 (fun e1 => ?_) (fun e1 => ?_)
      · walk_at "st"
        refine ite2 (fun e2 => ?_) (fun e2 => ?_)
        · have e2 : ¬ ((vs.length : Int) ≤ 10) := nd_tr e2
          walk_at "st"
          rw [decide_eq_false (by omega), Bool.false_and] at q
          exact q H (Same.refl H)
        · have e2 : (vs.length : Int) ≤ 10 := nd_fl e2
          rw [decide_eq_true (by omega), Bool.true_and] at q
          walk_at "st"
          refine for_tup (K := K) (a := a) (xs := vs) (fun i σ H' => Ok (∃ y1 y2, σ = [some (.ref a), y1, y2] ∧ Same H H' ∧ ∀ r ∈ Tb.take i, (decide (r.length = r0.length) && r.all (entB r.length Tb.length)) = true))
            ⟨_, _, rfl, Same.refl H, fun r h => absurd h List.not_mem_nil⟩ (fun i σ H' _ ⟨y1, y2, _, sm, _⟩ => TK.seqT (Same.tk sm) hs) ?_ ?_
          · rintro i x σ H' hx ⟨y1, y2, rfl, sm, hall⟩
            have hi : i < Tb.length := by
              have z : i < vs.length := (List.getElem?_eq_some_iff.mp hx).1
              omega
            have hxr : Tp K H x (rowD Tb[i]) := by
              obtain ⟨z, e, hz⟩ := hT.get (i := i) (d := rowD Tb[i]) (by rw [List.getElem?_map, List.getElem?_eq_getElem hi]; rfl)
              rw [hx] at e
              cases e
              exact hz
            have hmem : Tb[i] ∈ Tb := List.getElem_mem hi
            have htk := take_more (List.getElem?_eq_getElem hi)
            generalize hrw : Tb[i] = rw at *
            obtain ⟨b, ws, rfl, hsb, hws⟩ := hxr.tupI
            have hlw : ws.length = rw.length := by rw [TpAll.length hws, List.length_map]
            have hs' := TK.seqT (Same.tk sm) hs
            have hs0' := TK.seqT (Same.tk sm) hs0
            have hsb' := TK.seqT (Same.tk sm) hsb
            have bad : (decide (rw.length = r0.length) && rw.all (entB rw.length Tb.length)) = false → Q (.bl false) H' := fun z => by
              have z2 : (Tb.all fun r => decide (r.length = r0.length) && r.all (entB r.length Tb.length)) = false := List.all_eq_false.mpr ⟨rw, hmem, by rw [z]; exact Bool.false_ne_true⟩
              have q' := q H' sm
              rw [z2, Bool.false_and] at q'
              exact q'
            have badS : (decide (rw.length = r0.length) && rw.all (entB rw.length Tb.length)) = false → ∀ H2, Same H' H2 → Q (.bl false) H2 := fun z H2 s2 => by
              have z2 : (Tb.all fun r => decide (r.length = r0.length) && r.all (entB r.length Tb.length)) = false := List.all_eq_false.mpr ⟨rw, hmem, by rw [z]; exact Bool.false_ne_true⟩
              have q' := q H2 (Same.trans sm s2)
              rw [z2, Bool.false_and] at q'
              exact q'
            walk_at "st"
            refine ite2 (fun e3 => ?_) (fun e3 => ?_)
            · have e3 := ne_tr e3
              walk_at "st"
              exact bad (by rw [decide_eq_false (by omega), Bool.false_and])
            · have e3 := ne_fl e3
              walk_at "st"
              intro L nL
              refine lc_tup (K := K) (a := b) (xs := ws) (fun j H2 => Ok (Same H' H2 ∧ H2 L = some (.lst (((rw.take j).map (entB rw.length Tb.length)).map V.bl)))) ⟨Same.new nL, upd_same⟩ (fun j H2 _ ⟨s2, _⟩ => TK.seqT (Same.tk s2) hsb') ?_ ?_
              · rintro j y H2 hy ⟨s2, hL⟩
                have hj : j < rw.length := by
                  have z : j < ws.length := (List.getElem?_eq_some_iff.mp hy).1
                  omega
                have hye : Tp K H y (entD rw[j]) := by
                  obtain ⟨z, e, hz⟩ := hws.get (i := j) (d := entD rw[j]) (by rw [List.getElem?_map, List.getElem?_eq_getElem hj]; rfl)
                  rw [hy] at e
                  cases e
                  exact hz
                have hye2 : Tp K H2 y (entD rw[j]) := Tp.mono (Same.tk (Same.trans sm s2)) _ _ hye
                have hs2 := TK.seqT (Same.tk s2) hs'
                have hsb2 := TK.seqT (Same.tk s2) hsb'
                have hsz : (((rw.take j).map (entB rw.length Tb.length)).map V.bl).length < sizeLine := by
                  rw [List.length_map, List.length_map, List.length_take]
                  have := hr1 rw hmem
                  exact small1000 (by omega)
                walk_at "st"
                refine ⟨Same.fresh s2 nL, ?_⟩
                rw [upd_same, take_more (List.getElem?_eq_getElem hj), List.map_append, List.map_append, hlw, hlen]
                rfl
              · rintro H2 ⟨s2, hL⟩
                rw [hlw, List.take_length] at hL
                walk_at "st"
                rw [List.all_map, show (id ∘ entB rw.length Tb.length) = entB rw.length Tb.length from rfl]
                refine ite2 (fun e4 => ?_) (fun e4 => ?_)
                · have e4 := nb_tr e4
                  walk_at "st"
                  exact badS (by rw [e4, Bool.and_false]) H2 s2
                · have e4 := nb_fl e4
                  refine ⟨_, _, rfl, Same.trans sm s2, fun r hr => ?_⟩
                  rw [htk] at hr
                  rcases List.mem_append.mp hr with h | h
                  · exact hall r h
                  · rw [List.mem_singleton.mp h, e4, decide_eq_true (by omega)]
                    rfl
          · rintro σ H' ⟨y1, y2, rfl, sm, hall⟩
            rw [hlen, List.take_length] at hall
            have hs' := TK.seqT (Same.tk sm) hs
            have hs0' := TK.seqT (Same.tk sm) hs0
            have q := q H' sm
            rw [List.all_eq_true.mpr hall, Bool.true_and] at q
            walk_at "st"
            refine ite2 (fun e3 => ?_) (fun e3 => ?_)
            · have e3 : (2 : Int) ≤ w0.length := of_decide_eq_true e3
              rw [decide_eq_true (by omega), Bool.true_and] at q
              walk_at "st"
              rw [show decide (r0.length ≤ 6) = decide ((w0.length : Int) ≤ 6) from decide_eq_decide.mpr (by omega)] at q
              exact q
            · have e3 : ¬ (2 : Int) ≤ w0.length := d_fl e3
              rw [decide_eq_false (by omega), Bool.false_and] at q
              exact q
      · exact absurd (decide_eq_true (show (1 : Int) ≤ vs.length by omega)) e1
end

/-! ### tables that are right -/
structure TabGood (T : List (List Ent)) : Prop where
  len : T.length ≤ 10
  rows : ∀ r ∈ T, r.length ≤ 6
  ents : ∀ r ∈ T, ∀ e ∈ r, EntOk 10 10 e
  ne : T ≠ []
  rne : ∀ r ∈ T, r ≠ []
theorem entB_ok {c n : Int} {e : Ent} (h : entB c n e = true) : EntOk c n e := by
  cases e with
  | none => trivial
  | some e =>
    simp only [entB, Bool.and_eq_true, decide_eq_true_eq] at h
    obtain ⟨⟨a, b⟩, ⟨c, d⟩, e, f⟩ := h
    exact ⟨⟨a, by omega⟩, ⟨c, by omega⟩, ⟨e, by omega⟩⟩
theorem EntOk.mono {c n c' n' : Int} {e : Ent} (h : EntOk c n e) (hc : c ≤ c') (hn : n ≤ n') : EntOk c' n' e := by
  cases e with
  | none => trivial
  | some e =>
    obtain ⟨⟨a, b⟩, ⟨c, d⟩, e, f⟩ := h
    exact ⟨⟨a, by omega⟩, ⟨c, d⟩, ⟨e, by omega⟩⟩
theorem tabB_all {r0 : List Ent} {rs : List (List Ent)} (h : tabB (r0 :: rs) = true) : (r0 :: rs).length ≤ 10 ∧ (∀ r ∈ r0 :: rs, r.length = r0.length ∧ ∀ e ∈ r, EntOk r.length (r0 :: rs).length e) ∧ 2 ≤ r0.length ∧ r0.length ≤ 6 := by
  have h : (decide ((r0 :: rs).length ≤ 10) && (((r0 :: rs).all fun r => decide (r.length = r0.length) && r.all (entB r.length (r0 :: rs).length)) && (decide (2 ≤ r0.length) && decide (r0.length ≤ 6)))) = true := h
  generalize hT : (r0 :: rs) = T at *
  simp only [Bool.and_eq_true, decide_eq_true_eq, List.all_eq_true] at h
  obtain ⟨a, b, c, d⟩ := h
  exact ⟨a, fun r hr => ⟨(b r hr).1, fun e he => entB_ok ((b r hr).2 e he)⟩, c, d⟩
theorem tabB_good {T : List (List Ent)} (h : tabB T = true) : TabGood T := by
  cases T with
  | nil => cases h
  | cons r0 rs =>
    obtain ⟨a, b, c, d⟩ := tabB_all h
    refine ⟨a, fun r hr => ?_, fun r hr e he => ?_, by simp, fun r hr z => ?_⟩
    · rw [(b r hr).1]; exact d
    · have := (b r hr).1
      exact ((b r hr).2 e he).mono (by omega) (by omega)
    · have := (b r hr).1
      rw [z] at this
      simp at this
      omega
theorem TabOk.good {c n : Nat} {T : List (List Ent)} (h : TabOk c n T) (h1 : 1 ≤ n) (h2 : n ≤ 2) (h3 : 2 ≤ c) (h4 : c ≤ 3) : tabB T = true := by
  obtain ⟨hl, hr⟩ := h
  cases T with
  | nil => simp at hl; omega
  | cons r0 rs =>
    have h0 := (hr r0 List.mem_cons_self).1
    show (decide ((r0 :: rs).length ≤ 10) && (((r0 :: rs).all fun r => decide (r.length = r0.length) && r.all (entB r.length (r0 :: rs).length)) && (decide (2 ≤ r0.length) && decide (r0.length ≤ 6)))) = true
    generalize hT : (r0 :: rs) = T at *
    simp only [Bool.and_eq_true, decide_eq_true_eq, List.all_eq_true]
    refine ⟨by omega, fun r hr' => ⟨by rw [(hr r hr').1, h0], fun e he => ?_⟩, by omega, by omega⟩
    have z := (hr r hr').2 e he
    rw [(hr r hr').1, hl]
    cases e with
    | none => rfl
    | some e =>
      obtain ⟨⟨a, b⟩, ⟨c, d⟩, e, f⟩ := z
      simp only [entB, Bool.and_eq_true, decide_eq_true_eq]
      exact ⟨⟨a, by omega⟩, ⟨c, by omega⟩, e, by omega⟩
def spCheckT (K : PySem.W.Frag) : Sp := fun vs H Q _ => ∃ (v : V) (T : List (List Ent)), vs = [v] ∧ Tp K H v (tabD T) ∧ tabB T = true ∧ ∀ H', Same H H' → Q .non H'
section
variable {P : Program} {w : World} {K : PySem.W.Frag} {mg : Str → Option Value} {base : Heap}
theorem ok_check_table (T : Txt K mg) (D : DefAt K mg "check_table" s_check_table ["value"]) (C_is_table : Cal P w K mg base CX0 "is_table" 3 ["value"] (spIsTable K)) : Cal P w K mg base CX0 "check_table" 4 ["value"] (spCheckT K) := by
  refine D.cal sc_check_table (fun vs H Q E h => ?_) (fun f cdv A outer s H vs Q E hr h => ?_)
  · obtain ⟨v, Tb, rfl, _⟩ := h
    rfl
  · obtain ⟨v, Tb, rfl, hv, hg, q⟩ := h
    refine ⟨_, (pss_one (ps_if (pt_not (pt_val (pe_own C_is_table hr (by first | decide | omega) (pa_cons (pv 0) pa_nil)))) (pss_one ps_never) pss_nil)), ?_⟩
    have g := tabB_good hg
    have h1 : Tb.length ≤ 1000 := by have := g.len; omega
    have h2 : ∀ r ∈ Tb, r.length ≤ 1000 := fun r hr => by have := g.rows r hr; omega
    walk_at "st"
    intro H' s'
    rw [hg]
    walk_at "st"
    exact q H' s'
end

/-! ### places, squares, floors: are they right? -/
abbrev FarI : Int := 1000000000000000000000000000000000000000000000000000000000000
def spPlaceOk (K : PySem.W.Frag) : Sp := fun vs H Q _ => ∃ (v : V) (p : Pt), vs = [v] ∧ Tp K H v (.tuple [.int p.1, .int p.2]) ∧ InB FarI p ∧ Q (.bl true) H
def spSquareOk (K : PySem.W.Frag) : Sp := fun vs H Q _ => ∃ (v : V) (c : Int) (s : Sq), vs = [v, .int c] ∧ Tp K H v (sqD s) ∧ InB FarI s.pt ∧ 1 ≤ s.2.2 ∧ s.2.2 < c ∧ ∀ H', Same H H' → Q (.bl true) H'
def spFloorOk (K : PySem.W.Frag) : Sp := fun vs H Q _ => ∃ (v : V) (c : Nat) (F : List Sq), vs = [v, .int c] ∧ Tp K H v (floorD F) ∧ FlOk c FarI F ∧ F.length ≤ 1000 ∧ ∀ H', Same H H' → Q .non H'
def spNumberOk : Sp := fun vs H Q _ => ∃ v lo hi : Int, vs = [.int v, .int lo, .int hi] ∧ lo ≤ v ∧ v ≤ hi ∧ Q .non H
def spWalkerOk (K : PySem.W.Frag) : Sp := fun vs H Q _ => ∃ (v : V) (n : Nat) (w : Wk), vs = [v, .int n] ∧ Tp K H v (wkD w) ∧ InB FarI (wPt w) ∧ (0 ≤ w.2.2.1 ∧ w.2.2.1 < 4) ∧ (0 ≤ w.2.2.2 ∧ w.2.2.2 < n) ∧ ∀ H', Same H H' → Q (.bl true) H'
def spCheckW (K : PySem.W.Frag) : Sp := fun vs H Q _ => ∃ (v : V) (n : Nat) (w : Wk), vs = [v, .int n] ∧ Tp K H v (wkD w) ∧ InB FarI (wPt w) ∧ (0 ≤ w.2.2.1 ∧ w.2.2.1 < 4) ∧ (0 ≤ w.2.2.2 ∧ w.2.2.2 < n) ∧ ∀ H', Same H H' → Q .non H'
theorem in_dec {a b v : Int} (h1 : a ≤ v) (h2 : v ≤ b) : (decide (a ≤ v) && decide (v ≤ b)) = true := by
  rw [decide_eq_true h1, decide_eq_true h2]
  rfl
theorem leT_false {a b c d : Int} (h : c < a ∨ (c = a ∧ d < b)) : Ob.lexAt (fun j => decide (([a, b] : List Int).getD j 0 = ([c, d] : List Int).getD j 0)) (fun j => decide (([a, b] : List Int).getD j 0 ≤ ([c, d] : List Int).getD j 0)) (decide (([a, b] : List Int).length ≤ ([c, d] : List Int).length)) 0 (min ([a, b] : List Int).length ([c, d] : List Int).length) = false := by
  show (if decide (a = c) = true then (if decide (b = d) = true then true else decide (b ≤ d)) else decide (a ≤ c)) = false
  by_cases e1 : a = c
  · rw [if_pos (decide_eq_true e1), if_neg (fun z => by have := of_decide_eq_true z; omega)]
    exact decide_eq_false (by omega)
  · rw [if_neg (fun z => e1 (of_decide_eq_true z))]
    exact decide_eq_false (by omega)
section
variable {P : Program} {w : World} {K : PySem.W.Frag} {mg : Str → Option Value} {base : Heap}
theorem ok_is_place (T : Txt K mg) (D : DefAt K mg "is_place" s_is_place ["value"]) (C_is_whole : Cal P w K mg base CX0 "is_whole" 1 ["value", "least", "greatest"] spWhole) : Cal P w K mg base CX0 "is_place" 2 ["value"] (spPlaceOk K) := by
  refine D.cal sc_is_place (fun vs H Q E h => ?_) (fun f cdv A outer s H vs Q E hr h => ?_)
  · obtain ⟨v, p, rfl, _⟩ := h
    rfl
  · obtain ⟨v, p, rfl, hv, hb, q⟩ := h
    refine ⟨_, (pss_cons (ps_if (PW.pt (pw_or (pt_not (pt_val (pe_callB (k_isN (K := K)) (by rfl) T.m_isinstance (by decide +kernel) (pa_cons (pv 0) (pa_cons (pe_ty "tuple" (by rfl) T.m_tuple (by decide +kernel)) pa_nil))))) (pw_or1 (pt_cmpR op_ne (pe_callB (k_len_t (K := K)) (by rfl) T.m_len (by decide +kernel) (pa_cons (pv 0) pa_nil)) pe_int (nomark _))))) (pss_one (ps_ret pe_bl)) pss_nil)
      (pss_one (ps_ret (pe_and (pe_own C_is_whole hr (by first | decide | omega) (pa_cons (pe_ix (k_ix_tup (K := K)) (pv 0) pe_int (fun _ _ => rfl)) (pa_cons (pe_un un_neg (pe_gint (by rfl) T.far)) (pa_cons (pe_gint (by rfl) T.far) pa_nil)))) (pe_one (pe_own C_is_whole hr (by first | decide | omega) (pa_cons (pe_ix (k_ix_tup (K := K)) (pv 0) pe_int (fun _ _ => rfl)) (pa_cons (pe_un un_neg (pe_gint (by rfl) T.far)) (pa_cons (pe_gint (by rfl) T.far) pa_nil))))))))), ?_⟩
    obtain ⟨a, rfl, hs⟩ := hv.int2
    obtain ⟨⟨b1, b2⟩, b3, b4⟩ := hb
    walk_at "st"
    rw [in_dec b1 b2]
    refine iteT ?_
    walk_at "st"
    rw [in_dec b3 b4]
    exact q
theorem ok_check_number (T : Txt K mg) (D : DefAt K mg "check_number" s_check_number ["value", "least", "greatest"]) (C_is_whole : Cal P w K mg base CX0 "is_whole" 1 ["value", "least", "greatest"] spWhole) : Cal P w K mg base CX0 "check_number" 2 ["value", "least", "greatest"] spNumberOk := by
  refine D.cal sc_check_number (fun vs H Q E h => ?_) (fun f cdv A outer s H vs Q E hr h => ?_)
  · obtain ⟨v, lo, hi, rfl, _⟩ := h
    rfl
  · obtain ⟨v, lo, hi, rfl, b1, b2, q⟩ := h
    refine ⟨_, (pss_one (ps_if (pt_not (pt_val (pe_own C_is_whole hr (by first | decide | omega) (pa_cons (pv 0) (pa_cons (pv 1) (pa_cons (pv 2) pa_nil)))))) (pss_one ps_never) pss_nil)), ?_⟩
    walk_at "st"
    rw [in_dec b1 b2]
    refine if_not ?_
    exact q
theorem ok_u_is_square (T : Txt K mg) (D : DefAt K mg "_is_square" s_u_is_square ["value", "colours"]) (C_is_whole : Cal P w K mg base CX0 "is_whole" 1 ["value", "least", "greatest"] spWhole) (C_is_place : Cal P w K mg base CX0 "is_place" 2 ["value"] (spPlaceOk K)) : Cal P w K mg base CX0 "_is_square" 3 ["value", "colours"] (spSquareOk K) := by
  refine D.cal sc_u_is_square (fun vs H Q E h => ?_) (fun f cdv A outer s H vs Q E hr h => ?_)
  · obtain ⟨v, c, s, rfl, _⟩ := h
    rfl
  · obtain ⟨v, c, s, rfl, hv, hb, c1, c2, q⟩ := h
    refine ⟨_, (pss_cons (ps_if (PW.pt (pw_or (pt_not (pt_val (pe_callB (k_isN (K := K)) (by rfl) T.m_isinstance (by decide +kernel) (pa_cons (pv 0) (pa_cons (pe_ty "tuple" (by rfl) T.m_tuple (by decide +kernel)) pa_nil))))) (pw_or1 (pt_cmpR op_ne (pe_callB (k_len_t (K := K)) (by rfl) T.m_len (by decide +kernel) (pa_cons (pv 0) pa_nil)) pe_int (nomark _))))) (pss_one (ps_ret pe_bl)) pss_nil)
      (pss_one (ps_ret (pe_and (pe_own C_is_place hr (by first | decide | omega) (pa_cons (pe_slice (k_sl_tup (K := K)) (pv 0) po_none (po_some pe_int)) pa_nil)) (pe_one (pe_own C_is_whole hr (by first | decide | omega) (pa_cons (pe_ix (k_ix_tup (K := K)) (pv 0) pe_int (fun _ _ => rfl)) (pa_cons pe_int (pa_cons (pe_op op_sub (pv 1) pe_int) pa_nil))))))))), ?_⟩
    obtain ⟨a, rfl, hs⟩ := hv.int3
    walk_at "st"
    intro p np
    have s1 : Same H (upd H p (.tup [.int s.1, .int s.2.1])) := Same.new np
    have hs1 := TK.seqT (Same.tk s1) hs
    refine ⟨.ref p, s.pt, rfl, Tp.of_ints (ks := [s.1, s.2.1]) (SqT.of upd_same), hb, ?_⟩
    refine ⟨_, rfl, iteT ?_⟩
    walk_at "st"
    rw [in_dec (by omega) (by omega)]
    exact q _ s1
theorem ok_is_walker (T : Txt K mg) (D : DefAt K mg "is_walker" s_is_walker ["value", "states"]) (C_is_whole : Cal P w K mg base CX0 "is_whole" 1 ["value", "least", "greatest"] spWhole) (C_is_place : Cal P w K mg base CX0 "is_place" 2 ["value"] (spPlaceOk K)) : Cal P w K mg base CX0 "is_walker" 3 ["value", "states"] (spWalkerOk K) := by
  refine D.cal sc_is_walker (fun vs H Q E h => ?_) (fun f cdv A outer s H vs Q E hr h => ?_)
  · obtain ⟨v, c, s, rfl, _⟩ := h
    rfl
  · obtain ⟨v, n, wk, rfl, hv, hb, ⟨c1, c2⟩, ⟨c3, c4⟩, q⟩ := h
    refine ⟨_, (pss_cons (ps_if (PW.pt (pw_or (pt_not (pt_val (pe_callB (k_isN (K := K)) (by rfl) T.m_isinstance (by decide +kernel) (pa_cons (pv 0) (pa_cons (pe_ty "tuple" (by rfl) T.m_tuple (by decide +kernel)) pa_nil))))) (pw_or1 (pt_cmpR op_ne (pe_callB (k_len_t (K := K)) (by rfl) T.m_len (by decide +kernel) (pa_cons (pv 0) pa_nil)) pe_int (nomark _))))) (pss_one (ps_ret pe_bl)) pss_nil)
      (pss_one (ps_ret (pe_and (pe_own C_is_place hr (by first | decide | omega) (pa_cons (pe_slice (k_sl_tup (K := K)) (pv 0) po_none (po_some pe_int)) pa_nil)) (pe_and (pe_own C_is_whole hr (by first | decide | omega) (pa_cons (pe_ix (k_ix_tup (K := K)) (pv 0) pe_int (fun _ _ => rfl)) (pa_cons pe_int (pa_cons pe_int pa_nil)))) (pe_one (pe_own C_is_whole hr (by first | decide | omega) (pa_cons (pe_ix (k_ix_tup (K := K)) (pv 0) pe_int (fun _ _ => rfl)) (pa_cons pe_int (pa_cons (pe_op op_sub (pv 1) pe_int) pa_nil)))))))))), ?_⟩
    obtain ⟨a, rfl, hs⟩ := hv.int4
    walk_at "st"
    intro p np
    have s1 : Same H (upd H p (.tup [.int wk.1, .int wk.2.1])) := Same.new np
    have hs1 := TK.seqT (Same.tk s1) hs
    refine ⟨.ref p, wPt wk, rfl, Tp.of_ints (ks := [wk.1, wk.2.1]) (SqT.of upd_same), hb, ?_⟩
    refine ⟨_, rfl, iteT ?_⟩
    walk_at "st"
    rw [in_dec (by omega) (by omega)]
    refine iteT ?_
    walk_at "st"
    rw [in_dec (by omega) (by omega)]
    exact q _ s1
theorem ok_check_walker (T : Txt K mg) (D : DefAt K mg "check_walker" s_check_walker ["value", "states"]) (C_is_walker : Cal P w K mg base CX0 "is_walker" 3 ["value", "states"] (spWalkerOk K)) : Cal P w K mg base CX0 "check_walker" 4 ["value", "states"] (spCheckW K) := by
  refine D.cal sc_check_walker (fun vs H Q E h => ?_) (fun f cdv A outer s H vs Q E hr h => ?_)
  · obtain ⟨v, c, s, rfl, _⟩ := h
    rfl
  · obtain ⟨v, n, wk, rfl, hv, hb, c1, c2, q⟩ := h
    refine ⟨_, (pss_one (ps_if (pt_not (pt_val (pe_own C_is_walker hr (by first | decide | omega) (pa_cons (pv 0) (pa_cons (pv 1) pa_nil))))) (pss_one ps_never) pss_nil)), ?_⟩
    walk_at "st"
    intro H1 s1
    walk_at "st"
    exact q _ s1
end

section
variable {P : Program} {w : World} {K : PySem.W.Frag} {mg : Str → Option Value} {base : Heap}
theorem SqV.get {H : Hp} {vs : List V} {F : List Sq} (h : TpAll K H vs (F.map sqD)) {i : Nat} {v : V} (e : vs[i]? = some v) : ∃ s, F[i]? = some s ∧ Tp K H v (sqD s) := by
  have hl : vs.length = F.length := by rw [TpAll.length h, List.length_map]
  have hi : i < F.length := by
    have z : i < vs.length := (List.getElem?_eq_some_iff.mp e).1
    omega
  obtain ⟨z, e2, hz⟩ := h.get (i := i) (d := sqD F[i]) (by rw [List.getElem?_map, List.getElem?_eq_getElem hi]; rfl)
  rw [e] at e2
  cases e2
  exact ⟨_, List.getElem?_eq_getElem hi, hz⟩
theorem ok_check_floor (T : Txt K mg) (D : DefAt K mg "check_floor" s_check_floor ["value", "colours"]) (C_is_square : Cal P w K mg base CX0 "_is_square" 3 ["value", "colours"] (spSquareOk K)) : Cal P w K mg base CX0 "check_floor" 4 ["value", "colours"] (spFloorOk K) := by
  refine D.cal sc_check_floor (fun vs H Q E h => ?_) (fun f cdv A outer s H vs Q E hr h => ?_)
  · obtain ⟨v, c, F, rfl, _⟩ := h
    rfl
  · obtain ⟨v, c, F, rfl, hv, hF, hl, q⟩ := h
    refine ⟨_, (pss_cons (ps_if (PW.pt (pw_or (pt_not (pt_val (pe_callB (k_isN (K := K)) (by rfl) T.m_isinstance (by decide +kernel) (pa_cons (pv 0) (pa_cons (pe_ty "tuple" (by rfl) T.m_tuple (by decide +kernel)) pa_nil))))) (pw_or1 (pt_cmpR op_gt (pe_callB (k_len_t (K := K)) (by rfl) T.m_len (by decide +kernel) (pa_cons (pv 0) pa_nil)) (pe_gint (by rfl) T.most_squares) (nomark _))))) (pss_one ps_never) pss_nil)
      (pss_one (ps_for PassesOwn.never rfl (k_enT (K := K) (by rfl) T.m_enumerate (pa_cons (pv 0) pa_nil)) (pg_tup (by rfl) (pgs_cons (pg_name (i := 2) sc_check_floor.nd rfl (Or.inl rfl)) (pgs_cons (pg_name (i := 3) sc_check_floor.nd rfl (Or.inl rfl)) pgs_nil)))
      (pss_cons (ps_if (pt_not (pt_val (pe_own C_is_square hr (by first | decide | omega) (pa_cons (pv 3) (pa_cons (pv 1) pa_nil))))) (pss_one ps_never) pss_nil)
      (pss_one (ps_if (PW.pt (pw_and (pt_cmpR op_gt (pv 2) pe_int (nomark _)) (pw_and1 (pt_cmpR (k_leT (K := K) hr.units0) (pe_slice (k_sl_tup (K := K)) (pv 3) po_none (po_some pe_int)) (pe_slice (k_sl_tup (K := K)) (pe_ix (k_ix_tup (K := K)) (pv 0) (pe_op op_sub (pv 2) pe_int) (fun _ _ => rfl)) po_none (po_some pe_int)) (nomark _))))) (pss_one ps_never) pss_nil)))))), ?_⟩
    obtain ⟨a, vs, rfl, hs, hvs⟩ := hv.tupI
    have hlen : vs.length = F.length := by rw [TpAll.length hvs, List.length_map]
    walk_at "st"
    refine ite2 (fun e => absurd (of_decide_eq_true e) (by omega)) (fun _ => ?_)
    walk_at "st"
    refine for_it (walkEn (K := K) (a := a) (xs := vs)) (fun i σ H' => Ok (∃ y1 y2, σ = [some (.ref a), some (.int c), y1, y2] ∧ Same H H')) ⟨_, _, rfl, Same.refl H⟩ (fun i σ H' _ ⟨y1, y2, _, sm⟩ => TK.seqT (Same.tk sm) hs) ?_ ?_
    · rintro i x σ H' H2 hi ⟨y1, y2, rfl, sm⟩ ⟨t, z, y, rfl, nt, rfl, e1, e2⟩
      cases e1
      obtain ⟨s, hsF, hz⟩ := SqV.get hvs e2
      have s2 : Same H (upd H' t (.tup [.int (i : Nat), y])) := Same.trans sm (Same.new nt)
      have hsq := Tp.mono (Same.tk s2) _ _ hz
      obtain ⟨b, rfl, hsb⟩ := hsq.int3
      have hs2 := TK.seqT (Same.tk s2) hs
      obtain ⟨k1, k2, k3⟩ := hF.sq s (List.mem_of_getElem? hsF)
      walk_at "st"
      intro H3 s3
      have s03 := Same.trans s2 s3
      have hs3 := TK.seqT (Same.tk s03) hs
      have hsb3 := TK.seqT (Same.tk s3) hsb
      walk_at "st"
      refine ite2 (fun e => ?_) (fun e => ?_)
      · have hi0 : 0 < i := by
          have := of_decide_eq_true e
          omega
        have l1 : i - 1 < vs.length := by omega
        have hat : atI vs ((i : Int) - 1) = some vs[i - 1] := by
          rw [show ((i : Int) - 1) = ((i - 1 : Nat) : Int) by omega]
          exact atI_nat (List.getElem?_eq_getElem l1)
        obtain ⟨s0, hs0F, hz0⟩ := SqV.get hvs (List.getElem?_eq_getElem l1)
        have hz0 := Tp.mono (Same.tk s03) _ _ hz0
        have lt : ltP s0.pt s.pt := by
          obtain ⟨l2, e3⟩ := List.getElem?_eq_some_iff.mp hs0F
          obtain ⟨l3, e4⟩ := List.getElem?_eq_some_iff.mp hsF
          have z := List.pairwise_iff_getElem.mp hF.asc (i - 1) i l2 l3 (by omega)
          rw [e3, e4] at z
          exact z
        obtain ⟨b0, e5, hs0⟩ := hz0.int3
        rw [e5] at hat
        walk_at "st"
        intro p np
        have s4 : Same H3 (upd H3 p (.tup [.int s.1, .int s.2.1])) := Same.new np
        have hs4 := TK.seqT (Same.tk s4) hs3
        have hs04 := TK.seqT (Same.tk s4) hs0
        have hp : (upd H3 p (.tup [.int s.1, .int s.2.1])) p = some (.tup (([s.1, s.2.1] : List Int).map V.int)) := upd_same
        walk_at "st"
        intro p2 np2
        have s5 : Same (upd H3 p (.tup [.int s.1, .int s.2.1])) (upd (upd H3 p (.tup [.int s.1, .int s.2.1])) p2 (.tup [.int s0.1, .int s0.2.1])) := Same.new np2
        refine ⟨p, p2, [s.1, s.2.1], [s0.1, s0.2.1], rfl, rfl, SqT.of (s5 _ _ hp), SqT.of upd_same, ?_⟩
        rw [leT_false (a := s.1) (b := s.2.1) (c := s0.1) (d := s0.2.1) lt]
        walk_at "st"
        exact ⟨_, _, rfl, Same.trans s03 (Same.trans s4 s5)⟩
      · walk_at "st"
        exact ⟨_, _, rfl, s03⟩
    · rintro σ H' ⟨y1, y2, rfl, sm⟩
      exact q H' sm
end

/-! ### floors and cells -/
def spPlaces (K : PySem.W.Frag) : Sp := fun vs H Q _ => ∃ (v : V) (F : List Sq), vs = [v] ∧ Tp K H v (floorD F) ∧ (F.Pairwise fun a b => ltP a.pt b.pt) ∧ F.length ≤ 1000 ∧ ∀ D H', H D = none → H' D = some (.dT (cellK (cellsOf F))) → Same H H' → Q (.ref D) H'
def spFloorOf (K : PySem.W.Frag) : Sp := fun vs H Q _ => ∃ (D : Addr) (m : CM), vs = [.ref D] ∧ H D = some (.dT (cellK m)) ∧ (m.map (·.1)).Nodup ∧ (∀ e ∈ m, e.2 ≠ 0) ∧ m.length ≤ 3000 ∧
  ∀ v H' F, FloorOf (col m) F → F.length = m.length → Tp K H' v (floorD F) → Same H H' → Q v H'
/-- painted so -/
def paintM (m : CM) (p : Pt) (c : Int) : CM := if c = 0 then dropM m p else putM m p c
theorem paint_nd {m : CM} (p : Pt) (c : Int) (h : (m.map (·.1)).Nodup) : ((paintM m p c).map (·.1)).Nodup := by
  unfold paintM
  split
  · exact nd_drop p h
  · exact nd_put p c h
theorem paint_len (m : CM) (p : Pt) (c : Int) : (paintM m p c).length ≤ m.length + 1 := by
  unfold paintM
  have := len_put m p c
  have := len_drop m p
  split <;> omega
theorem put_mem : ∀ {m : CM} {p : Pt} {c : Int} {e : Pt × Int}, e ∈ putM m p c → e ∈ m ∨ e.2 = c
  | [], p, c, e, h => .inr (by rw [List.mem_singleton.mp h])
  | a :: r, p, c, e, h => by
    unfold putM at h
    by_cases q : a.1 = p
    · rw [if_pos q] at h
      rcases List.mem_cons.mp h with z | z
      · exact .inr (by rw [z])
      · exact .inl (List.mem_cons_of_mem _ z)
    · rw [if_neg q] at h
      rcases List.mem_cons.mp h with z | z
      · exact .inl (z ▸ List.mem_cons_self)
      · exact (put_mem z).imp (List.mem_cons_of_mem _) id
theorem drop_mem : ∀ {m : CM} {p : Pt} {e : Pt × Int}, e ∈ dropM m p → e ∈ m
  | a :: r, p, e, h => by
    unfold dropM at h
    by_cases q : a.1 = p
    · rw [if_pos q] at h
      exact List.mem_cons_of_mem _ h
    · rw [if_neg q] at h
      rcases List.mem_cons.mp h with z | z
      · exact z ▸ List.mem_cons_self
      · exact List.mem_cons_of_mem _ (drop_mem z)
theorem paint_nz {m : CM} {p : Pt} {c : Int} (h : ∀ e ∈ m, e.2 ≠ 0) : ∀ e ∈ paintM m p c, e.2 ≠ 0 := by
  intro e he
  unfold paintM at he
  by_cases z : c = 0
  · rw [if_pos z] at he
    exact h e (drop_mem he)
  · rw [if_neg z] at he
    rcases put_mem he with q | q
    · exact h e q
    · rw [q]
      exact z
theorem paint_col {m : CM} (p : Pt) (c : Int) (h : (m.map (·.1)).Nodup) : col (paintM m p c) = dab (col m) p c := by
  funext q
  unfold paintM col dab
  by_cases z : c = 0
  · rw [if_pos z, look_drop p q h]
    split
    · exact z.symm
    · rfl
  · rw [if_neg z, look_put]
    split <;> rfl
def spPaint : Sp := fun vs H Q _ => ∃ (D b : Addr) (m : CM) (x y c : Int), vs = [.ref D, .ref b, .int c] ∧ H D = some (.dT (cellK m)) ∧ H b = some (.tup [.int x, .int y]) ∧ (m.map (·.1)).Nodup ∧ m.length ≤ 3000 ∧
  ∀ H', H' D = some (.dT (cellK (paintM m (x, y) c))) → KeepE [D] H H' → Q .non H'
/-- the cells, sorted, are the floor -/
theorem sorted_floor {m : CM} {bs : List (Addr × List Int)} (nd : (m.map (·.1)).Nodup) (nz : ∀ e ∈ m, e.2 ≠ 0) (pm : (bs.map (·.2)).Perm (m.map fun e => [e.1.1, e.1.2, e.2])) (pw : bs.Pairwise fun x y => ltZ y.2 x.2 = false) :
    ∃ F : List Sq, bs.map (·.2) = F.map (fun s => [s.1, s.2.1, s.2.2]) ∧ FloorOf (col m) F ∧ F.length = m.length := by
  have pm2 : (bs.map (·.2)).Perm ((m.map fun e => ((e.1.1, e.1.2, e.2) : Sq)).map fun s => [s.1, s.2.1, s.2.2]) := by
    rw [List.map_map]
    exact pm
  obtain ⟨F, pF, eF⟩ := perm_lift (fun s : Sq => [s.1, s.2.1, s.2.2]) pm2 _ rfl
  have pwF : F.Pairwise fun a b => ltZ [b.1, b.2.1, b.2.2] [a.1, a.2.1, a.2.2] = false := by
    have z : (bs.map (·.2)).Pairwise fun x y => ltZ y x = false := List.pairwise_map.mpr pw
    rw [← eF] at z
    exact List.pairwise_map.mp z
  have ndF : F.Pairwise fun a b => a.pt ≠ b.pt := by
    have z : ((m.map fun e => ((e.1.1, e.1.2, e.2) : Sq)).map Sq.pt).Nodup := by
      rw [List.map_map]
      exact nd
    have y : (F.map Sq.pt).Nodup := (pF.map Sq.pt).nodup_iff.mpr z
    exact List.pairwise_map.mp y
  have asc : F.Pairwise fun a b => ltP a.pt b.pt := by
    refine List.Pairwise.imp₂ (fun a b h1 h2 => ?_) pwF ndF
    have h3 : ¬ (b.1 < a.1 ∨ (¬ a.1 < b.1 ∧ b.2.1 < a.2.1)) := fun z => by
      have e : ltZ [b.1, b.2.1, b.2.2] [a.1, a.2.1, a.2.2] = true := by
        show (decide (b.1 < a.1) || (!decide (a.1 < b.1) && (decide (b.2.1 < a.2.1) || (!decide (a.2.1 < b.2.1) && ltZ [b.2.2] [a.2.2])))) = true
        rcases z with z | ⟨z1, z2⟩
        · rw [decide_eq_true z]
          rfl
        · rw [decide_eq_false z1, decide_eq_true z2, Bool.or_eq_true]
          exact .inr rfl
      rw [e] at h1
      cases h1
    have h4 : ¬ (a.1 = b.1 ∧ a.2.1 = b.2.1) := fun z => h2 (Prod.ext z.1 z.2)
    show a.1 < b.1 ∨ (a.1 = b.1 ∧ a.2.1 < b.2.1)
    omega
  refine ⟨F, eF.symm, ⟨asc, fun s => ?_⟩, by rw [pF.length_eq, List.length_map]⟩
  rw [pF.mem_iff, List.mem_map]
  constructor
  · rintro ⟨e, he, rfl⟩
    have q := mem_look nd (show (e.1, e.2) ∈ m from he)
    refine ⟨?_, nz e he⟩
    show e.2 = (look m (e.1.1, e.1.2)).getD 0
    rw [show ((e.1.1, e.1.2) : Pt) = e.1 from rfl, q]
    rfl
  · rintro ⟨h1, h2⟩
    cases q : look m s.pt with
    | none =>
      unfold col at h1
      rw [q] at h1
      exact absurd h1 h2
    | some c =>
      unfold col at h1
      rw [q] at h1
      refine ⟨(s.pt, c), look_mem q, ?_⟩
      obtain ⟨x, y, k⟩ := s
      show (x, y, c) = (x, y, k)
      rw [show k = c from h1]

theorem dcT_it {J : It} {n : Nat} {G : Hp → Prop} {Y : Nat → Hp → V → Hp → Prop} (w : Walk J n G Y) {g : TG} {tk tv : TE} {vs : List Nat} {σ : L2.St} {H1 : Hp} {D : Addr} {Qd : Hp → Prop} (Pv : Nat → Hp → Prop) (h0 : Pv 0 (upd H1 D (.dT []))) (hG : ∀ i H, i ≤ n → Pv i H → G H)
    (hs : ∀ i x H H', i < n → Pv i H → Y i H x H' → g x (wipe σ vs) H' fun σ2 H2 => wipe σ2 vs = wipe σ vs ∧ tk σ2 H2 fun y H3 => tv σ2 H3 fun c H4 => ∃ kvs k b, y = .ref b ∧ H4 b = some (.tup (k.map kV)) ∧ H4 D = some (.dT kvs) ∧ kvs.length < sizeLine ∧ Pv (i + 1) (upd H4 D (.dT (putK kvs k c)))) (hd : ∀ H, Pv n H → Qd H) :
    ∃ W : Nat → Nat → Hp → Prop, (∃ m, W 0 m (upd H1 D (.dT []))) ∧ ∀ i m H, W i m H →
      (J.stop i H ∧ Qd H) ∨ (J.go i H ∧ ∃ Nx : Hp → Prop, (∀ H', Nx H' → ∃ m', m' < m ∧ W (i + 1) m' H') ∧ ∀ x H', J.yld i H x H' → g x (wipe σ vs) H' fun σ2 H2 => wipe σ2 vs = wipe σ vs ∧
        tk σ2 H2 fun y H3 => tv σ2 H3 fun c H4 => ∃ kvs k b, y = .ref b ∧ H4 b = some (.tup (k.map kV)) ∧ H4 D = some (.dT kvs) ∧ kvs.length < sizeLine ∧ Nx (upd H4 D (.dT (putK kvs k c)))) := by
  refine ⟨fun i m H => m = n - i ∧ i ≤ n ∧ Pv i H, ⟨n, rfl, Nat.zero_le _, h0⟩, fun i m H wi => ?_⟩
  obtain ⟨rfl, hi, p⟩ := wi
  have q := hG i H hi p
  rcases Nat.lt_or_ge i n with lt | ge
  · exact .inr ⟨w.goes i H lt q, Pv (i + 1), fun H' p' => ⟨n - (i + 1), by omega, rfl, lt, p'⟩, fun x H' y => hs i x H H' lt p (w.yields i H x H' lt q y)⟩
  · obtain rfl : i = n := Nat.le_antisymm hi ge
    exact .inl ⟨w.stops H q, hd H p⟩
theorem put_fresh {m : CM} {p : Pt} (c : Int) (h : p ∉ m.map (·.1)) : putM m p c = m ++ [(p, c)] := by
  induction m with
  | nil => rfl
  | cons e r ih =>
    unfold putM
    rw [if_neg (fun z => h (by rw [List.map_cons, z]; exact List.mem_cons_self)), ih fun z => h (List.mem_cons_of_mem _ z)]
    rfl
theorem cellK_snoc {m : CM} {p : Pt} {c : Int} (nd : (m.map (·.1)).Nodup) (h : p ∉ m.map (·.1)) : putK (cellK m) (ptK p) (.int c) = cellK (m ++ [(p, c)]) := by
  rw [cell_put p c nd, put_fresh c h]
theorem sqs_tp {K : PySem.W.Frag} {H : Hp} : ∀ {bs : List (Addr × List Int)} {F : List Sq}, (∀ b ∈ bs, SqT K H b.1 (b.2.map V.int)) → bs.map (·.2) = F.map (fun s => [s.1, s.2.1, s.2.2]) → TpAll K H (bs.map fun b => .ref b.1) (F.map sqD)
  | [], [], _, _ => .nil
  | [], _ :: _, _, e => nomatch e
  | _ :: _, [], _, e => nomatch e
  | b :: bs, s :: F, h, e => by
    obtain ⟨e1, e2⟩ := List.cons.inj e
    have h1 := h b List.mem_cons_self
    rw [show b.2 = [s.1, s.2.1, s.2.2] from e1] at h1
    exact .cons (Tp.of_ints (ks := [s.1, s.2.1, s.2.2]) h1) (sqs_tp (fun y hy => h y (List.mem_cons_of_mem _ hy)) e2)
theorem ty_dT {K : PySem.W.Frag} {H : Hp} {a : Addr} {kvs : List (List Key × V)} (h : H a = some (.dT kvs)) : tyV K "dict" (.ref a) H := by
  unfold tyV
  simp [h]
section
variable {P : Program} {w : World} {K : PySem.W.Frag} {mg : Str → Option Value} {base : Heap}
theorem ok_painted_places (T : Txt K mg) (D : DefAt K mg "painted_places" s_painted_places ["floor"]) : Cal P w K mg base CX0 "painted_places" 1 ["floor"] (spPlaces K) := by
  refine D.cal sc_painted_places (fun vs H Q E h => ?_) (fun f cdv A outer s H vs Q E hr h => ?_)
  · obtain ⟨v, F, rfl, _⟩ := h
    rfl
  · obtain ⟨v, F, rfl, hv, asc, hl, q⟩ := h
    refine ⟨_, (pss_one (ps_ret (pe_dcT (own := [("x", 1), ("y", 2), ("colour", 3)]) (g := gTup K 3 (gCons (gName 1) (gCons (gName 2) (gCons (gName 3) gNil)))) rfl hr.units0 sc_painted_places.nd (k_pi_tup (K := K) (pv 0)) (blkOk_by (by rfl)) (fun _ _ _ _ _ => (k_pgT (K := K) 3 (by rfl) (pgs_cons (pg_name (i := 1) sc_painted_places.nd rfl (Or.inl rfl)) (pgs_cons (pg_name (i := 2) sc_painted_places.nd rfl (Or.inl rfl)) (pgs_cons (pg_name (i := 3) sc_painted_places.nd rfl (Or.inl rfl)) pgs_nil))))) (fun _ _ _ _ _ => (pe_tup (pa_cons (pv 1) (pa_cons (pv 2) pa_nil)))) (fun _ _ _ _ _ => (pv 3))))), ?_⟩
    obtain ⟨a, vs, rfl, hs, hvs⟩ := hv.tupI
    have hlen : vs.length = F.length := by rw [TpAll.length hvs, List.length_map]
    walk_at "st"
    intro D nD
    refine dcT_it (walk_tup (K := K) (a := a) (xs := vs)) (fun i H' => Ok (Same H H' ∧ H' D = some (.dT (cellK (cellsOf (F.take i)))))) ⟨Same.new nD, upd_same⟩ (fun i H' _ ⟨sm, _⟩ => TK.seqT (Same.tk sm) hs) ?_ ?_
    · rintro i x H' H2 hi ⟨sm, hD⟩ ⟨rfl, hx⟩
      obtain ⟨s, hsF, hz⟩ := SqV.get hvs hx
      have hz := Tp.mono (Same.tk sm) _ _ hz
      obtain ⟨b, rfl, hsb⟩ := hz.int3
      walk_at "st"
      intro p np
      have hD2 : (upd H2 p (.tup [.int s.1, .int s.2.1])) D = some (.dT (cellK (cellsOf (F.take i)))) := by rw [upd_ne (ne_of_none hD np)]; exact hD
      have nd : ((cellsOf (F.take i)).map (·.1)).Nodup := asc_nd (asc.sublist (List.take_sublist _ _))
      have nin : s.pt ∉ (cellsOf (F.take i)).map (·.1) := fun z => by
        have nd2 : ((cellsOf (F.take (i + 1))).map (·.1)).Nodup := asc_nd (asc.sublist (List.take_sublist _ _))
        rw [take_more hsF] at nd2
        unfold cellsOf at nd2 z
        rw [List.map_append, List.map_append, List.nodup_append] at nd2
        exact nd2.2.2 _ z s.pt List.mem_cons_self rfl
      have hsz : (cellK (cellsOf (F.take i))).length < sizeLine := by
        rw [cell_len]
        unfold cellsOf
        rw [List.length_map, List.length_take]
        exact small1000 (by omega)
      refine ⟨_, rfl, _, ptK s.pt, p, rfl, upd_same, hD2, hsz, Same.fresh (Same.trans sm (Same.new np)) nD, ?_⟩
      rw [upd_same, cellK_snoc nd nin, take_more hsF]
      unfold cellsOf
      rw [List.map_append]
      rfl
    · rintro H' ⟨sm, hD⟩
      rw [hlen, List.take_length] at hD
      exact q D H' nD hD sm
theorem ok_paint_square (T : Txt K mg) (D : DefAt K mg "paint_square" s_paint_square ["painted", "place", "colour"]) : Cal P w K mg base CX0 "paint_square" 1 ["painted", "place", "colour"] spPaint := by
  refine D.cal sc_paint_square (fun vs H Q E h => ?_) (fun f cdv A outer s H vs Q E hr h => ?_)
  · obtain ⟨D, b, m, x, y, c, rfl, _⟩ := h
    rfl
  · obtain ⟨D, b, m, x, y, c, rfl, hD, hb, nd, hl, q⟩ := h
    refine ⟨_, (pss_one (ps_if (pt_cmpR op_eq (pv 2) pe_int (nomark _)) (pss_one (ps_expr (pe_bm PySem.F.plainAttrs_dict PySem.F.slot_dict_pop PySem.F.type_dict_pop (DX.mt_popT (hu_of hr)) (pv 0) (pa_cons (pv 1) (pa_cons pe_non pa_nil))))) (pss_one (ps_if (PW.pt (pw_or (pt_cmp (pc_din (hu_of hr) (pv 1) (pv 0))) (pw_or1 (pt_cmpR op_lt (pe_callB call_len_dT (by rfl) T.m_len (by decide +kernel) (pa_cons (pv 0) pa_nil)) (pe_gint (by rfl) T.most_squares) (nomark _))))) (pss_one (ps_dput (hu_of hr) (pv 0) (pv 1) (pv 2) (by rfl))) (pss_one ps_never))))), ?_⟩
    have hbk : H b = some (.tup ((ptK (x, y)).map kV)) := hb
    have nbD : b ≠ D := ne_of hb hD (by intro z; cases z)
    have hsz : (cellK m).length < sizeLine := by
      rw [cell_len]
      exact Nat.lt_of_le_of_lt hl (by decide)
    have hg : DGet H D (.ref b) (valV (cellK m) (ptK (x, y))) := DGet.t hD hbk
    have hw : DPut H D (.ref b) (.int c) (upd H D (.dT (putK (cellK m) (ptK (x, y)) (.int c)))) := DPut.t hD hbk hsz
    walk_at "st"
    refine ite2 (fun e => ?_) (fun e => ?_)
    · have e := eq_tr e
      subst e
      have fin : ∀ H', H' D = some (.dT (cellK (dropM m (x, y)))) → KeepE [D] H H' → Q .non H' := q
      walk_at "st"
      refine ⟨ty_dT hD, _, rfl, ?_⟩
      walk_at "st"
      refine ⟨fun v hv => ?_, fun hv => ?_⟩
      · refine fin _ ?_ (KeepE.put List.mem_cons_self)
        rw [upd_same, cell_drop (x, y) m nd]
      · refine fin _ ?_ (KeepE.refl _ _)
        have e2 : dropK (cellK m) (ptK (x, y)) = cellK m := dropK_no (valV_not hv)
        rw [← cell_drop (x, y) m nd, e2]
        exact hD
    · have e := eq_fl e
      have fin : Q .non (upd H D (.dT (putK (cellK m) (ptK (x, y)) (.int c)))) := by
        refine q _ ?_ (KeepE.put List.mem_cons_self)
        rw [upd_same, cell_put (x, y) c nd]
        unfold paintM
        rw [if_neg e]
      walk_at "st"
      refine ite2 (fun e1 => ?_) (fun e1 => ?_)
      · walk_at "st"
        exact fin
      · walk_at "st"
        refine ite2 (fun e2 => ?_) (fun e2 => absurd (decide_eq_true (by rw [cell_len]; omega)) e2)
        walk_at "st"
        exact fin
end

/-! ### the stroll -/
/-- the fields of a stroll, as __init__ stores them -/
abbrev strF (tv gv : V) (D : Addr) (wv : V) : List (Str × V) := [("table", tv), ("ground", gv), ("painted", .ref D), ("walker", wv)]
/-- the ground of a walk on blank squares -/
def blankD : PyData := .tuple [.tuple [.int 0]]
structure StrAt (K : PySem.W.Frag) (C : Addr) (H : Hp) (a D : Addr) (T : List (List Ent)) (m : CM) (w : Wk) : Prop where
  ob : ∃ dx tv gv wv, H a = some (.ins C dx (strF tv gv D wv)) ∧ Tp K H tv (tabD T) ∧ Tp K H wv (wkD w) ∧ Tp K H gv blankD
  dc : H D = some (.dT (cellK m))
  nd : (m.map (·.1)).Nodup
  nz : ∀ e ∈ m, e.2 ≠ 0
/-- what the text says of the class -/
structure ClsS (K : PySem.W.Frag) (mg : Str → Option Value) (C : Addr) : Prop where
  cl : Cls K C
  nT : NoAttr K C "table"
  nG : NoAttr K C "ground"
  nP : NoAttr K C "painted"
  nW : NoAttr K C "walker"
  mgC : mg "Stroll" = some (.ref C)
def spBehind (K : PySem.W.Frag) : Sp := fun vs H Q _ => ∃ (wv ev : V) (w : Wk) (e : Int × Int × Int), vs = [wv, ev] ∧ Tp K H wv (wkD w) ∧ Tp K H ev (entD (some e)) ∧ ∀ v H', Tp K H' v (wkD (behind w e)) → Same H H' → Q v H'
def spInit (K : PySem.W.Frag) (C : Addr) : Sp := fun vs H Q _ => ∃ (a dx : Addr) (tv fv wv gv : V) (T : List (List Ent)) (F : List Sq) (w : Wk), vs = [.ref a, tv, fv, wv, gv] ∧ H a = some (.ins C dx []) ∧ Tp K H gv blankD ∧ Tp K H tv (tabD T) ∧ Tp K H fv (floorD F) ∧ Tp K H wv (wkD w) ∧
  (F.Pairwise fun a b => ltP a.pt b.pt) ∧ (∀ s ∈ F, s.2.2 ≠ 0) ∧ F.length ≤ 1000 ∧ ∀ D H', H D = none → StrAt K C H' a D T (cellsOf F) w → KeepE [a] H H' → Q .non H'
/-- __init__ with the default ground behind -/
def spInit3 (K : PySem.W.Frag) (C : Addr) : Sp := fun vs H Q _ => ∃ (a dx : Addr) (tv fv wv : V) (T : List (List Ent)) (F : List Sq) (w : Wk), vs = [.ref a, tv, fv, wv] ∧ H a = some (.ins C dx []) ∧ Tp K H tv (tabD T) ∧ Tp K H fv (floorD F) ∧ Tp K H wv (wkD w) ∧
  (F.Pairwise fun a b => ltP a.pt b.pt) ∧ (∀ s ∈ F, s.2.2 ≠ 0) ∧ F.length ≤ 1000 ∧ ∀ D H', H D = none → StrAt K C H' a D T (cellsOf F) w → KeepE [a] H H' → Q .non H'
def spColOf (K : PySem.W.Frag) (C : Addr) : Sp := fun vs H Q _ => ∃ (a D p : Addr) (T : List (List Ent)) (m : CM) (w : Wk) (x y : Int), vs = [.ref a, .ref p] ∧ StrAt K C H a D T m w ∧ H p = some (.tup [.int x, .int y]) ∧ Q (.int (col m (x, y))) H
def spPaintO (K : PySem.W.Frag) (C : Addr) : Sp := fun vs H Q _ => ∃ (a D p : Addr) (T : List (List Ent)) (m : CM) (w : Wk) (x y c : Int), vs = [.ref a, .ref p, .int c] ∧ StrAt K C H a D T m w ∧ H p = some (.tup [.int x, .int y]) ∧ m.length ≤ 3000 ∧
  ∀ H', H' D = some (.dT (cellK (paintM m (x, y) c))) → KeepE [D] H H' → Q .non H'
def spReading (K : PySem.W.Frag) (C : Addr) : Sp := fun vs H Q _ => ∃ (a D : Addr) (T : List (List Ent)) (m : CM) (w : Wk), vs = [.ref a] ∧ StrAt K C H a D T m w ∧ ∀ v H', Tp K H' v (.tuple [.int w.2.2.2, .int (col m (wPt w))]) → Same H H' → Q v H'
def spStopped (K : PySem.W.Frag) (C : Addr) : Sp := fun vs H Q _ => ∃ (a D : Addr) (T : List (List Ent)) (m : CM) (w : Wk) (c n : Nat) (B : Int), vs = [.ref a] ∧ StrAt K C H a D T m w ∧ TabOk c n T ∧ Fit c n B (col m, w) ∧ ∀ b H', (b = true ↔ stepW T (col m, w) = none) → Same H H' → Q (.bl b) H'
def spGo (K : PySem.W.Frag) (C : Addr) : Sp := fun vs H Q _ => ∃ (a D : Addr) (T : List (List Ent)) (m : CM) (w : Wk) (c n : Nat) (B many : Int), vs = [.ref a, .int many] ∧ StrAt K C H a D T m w ∧ TabOk c n T ∧ Fit c n B (col m, w) ∧ (m.length : Int) + many ≤ 3000 ∧ 0 ≤ many ∧
  ∀ (L : Addr) (vs' : List V) (i : Nat) (m' : CM) (w' : Wk) H', H L = none → Ends T (col m, w) many.toNat i (col m', w') → StrAt K C H' a D T m' w' → m'.length ≤ m.length + i → H' L = some (.lst vs') → vs'.length = i → KeepE [a, D] H H' → Q (.ref L) H'
theorem StrAt.ne {K : PySem.W.Frag} {C : Addr} {H : Hp} {a D : Addr} {T : List (List Ent)} {m : CM} {w : Wk} (h : StrAt K C H a D T m w) : a ≠ D := by
  obtain ⟨dx, tv, gv, wv, e, _⟩ := h.ob
  exact ne_of e h.dc (by intro z; cases z)
theorem StrAt.soft {K : PySem.W.Frag} {C : Addr} {H : Hp} {a D : Addr} {T : List (List Ent)} {m : CM} {w : Wk} (h : StrAt K C H a D T m w) : ∀ b ∈ [a, D], Soft H b := by
  obtain ⟨dx, tv, gv, wv, e, _⟩ := h.ob
  intro b hb
  rcases List.mem_cons.mp hb with rfl | hb
  · exact Soft.ins e
  · rw [List.mem_singleton.mp hb]
    exact Soft.dT h.dc
theorem ahead_at {h : Int} (h0 : 0 ≤ h) (h1 : h < 4) {K : PySem.W.Frag} {b0 b1 b2 b3 : Addr} (k0 : KTu K b0 [.int 0, .int (-1)]) (k1 : KTu K b1 [.int 1, .int 0]) (k2 : KTu K b2 [.int 0, .int 1]) (k3 : KTu K b3 [.int (-1), .int 0]) :
    ∃ b, atI ([.ref b0, .ref b1, .ref b2, .ref b3] : List V) h = some (.ref b) ∧ KTu K b [.int (dxI h), .int (dyI h)] := by
  obtain ⟨n, rfl⟩ := Int.eq_ofNat_of_zero_le h0
  have c : n = 0 ∨ n = 1 ∨ n = 2 ∨ n = 3 := by omega
  rcases c with rfl | rfl | rfl | rfl
  · exact ⟨b0, at0, k0⟩
  · exact ⟨b1, at1, k1⟩
  · exact ⟨b2, at2, k2⟩
  · exact ⟨b3, at3, k3⟩
section
variable {P : Program} {w : World} {K : PySem.W.Frag} {mg : Str → Option Value} {base : Heap}
theorem ok_u_walker_behind (T : Txt K mg) (D : DefAt K mg "_walker_behind" s_u_walker_behind ["walker", "entry"]) : Cal P w K mg base CX0 "_walker_behind" 1 ["walker", "entry"] (spBehind K) := by
  refine D.cal sc_u_walker_behind (fun vs H Q E h => ?_) (fun f cdv A outer s H vs Q E hr h => ?_)
  · obtain ⟨wv, ev, wk, e, rfl, _⟩ := h
    rfl
  · obtain ⟨wv, ev, wk, e, rfl, hw, he, q⟩ := h
    obtain ⟨AA, b0, b1, b2, b3, hA, kA, k0, k1, k2, k3⟩ := T.ahead
    refine ⟨_, (pss_cons (ps_asg (pv 0) (pg_tup (by rfl) (pgs_cons (pg_name (i := 2) sc_u_walker_behind.nd rfl (Or.inl rfl)) (pgs_cons (pg_name (i := 3) sc_u_walker_behind.nd rfl (Or.inl rfl)) (pgs_cons (pg_name (i := 4) sc_u_walker_behind.nd rfl (Or.inl rfl)) (pgs_cons (pg_name (i := 5) sc_u_walker_behind.nd rfl (Or.inl rfl)) pgs_nil))))))
      (pss_cons (ps_asg (pv 1) (pg_tup (by rfl) (pgs_cons (pg_name (i := 5) sc_u_walker_behind.nd rfl (Or.inl rfl)) (pgs_cons (pg_name (i := 6) sc_u_walker_behind.nd rfl (Or.inl rfl)) (pgs_cons (pg_name (i := 7) sc_u_walker_behind.nd rfl (Or.inl rfl)) pgs_nil)))))
      (pss_cons (ps_set (i := 4) sc_u_walker_behind.nd rfl (Or.inl rfl) (pe_op op_mod (pe_op op_add (pv 4) (pv 6)) pe_int))
      (pss_cons (ps_asg (pe_ix (k_ix_tup (K := K)) (pe_glob (v := .ref AA) (by rfl) hA rfl) (pv 4) (fun _ _ => rfl)) (pg_tup (by rfl) (pgs_cons (pg_name (i := 8) sc_u_walker_behind.nd rfl (Or.inl rfl)) (pgs_cons (pg_name (i := 9) sc_u_walker_behind.nd rfl (Or.inl rfl)) pgs_nil))))
      (pss_one (ps_ret (pe_tup (pa_cons (pe_op op_add (pv 2) (pv 8)) (pa_cons (pe_op op_add (pv 3) (pv 9)) (pa_cons (pv 4) (pa_cons (pv 7) pa_nil))))))))))), ?_⟩
    obtain ⟨a, rfl, hsw⟩ := hw.int4
    obtain ⟨b, rfl, hse⟩ := (show Tp K H ev (.tuple [.int e.1, .int e.2.1, .int e.2.2]) from he).int3
    obtain ⟨bb, hat, kb⟩ := ahead_at (h := turnI wk e.2.1) (Int.emod_nonneg _ (by decide)) (Int.emod_lt_of_pos _ (by decide)) k0 k1 k2 k3
    have hat : atI ([.ref b0, .ref b1, .ref b2, .ref b3] : List V) ((wk.2.2.1 + e.2.1) % 4) = some (.ref bb) := hat
    have kAH := kA H
    have kbH := kb H
    walk_at "st"
    intro p np
    exact q _ _ (Tp.of_ints (ks := [_, _, _, _]) (SqT.of upd_same)) (Same.new np)
end

/-! ### methods of a class -/
structure MCal (P : Program) (w : World) (K : PySem.W.Frag) (mg : Str → Option Value) (base : Heap) (C : Addr) (m : Str) (k : Nat) (ps : List Str) (sp : Sp) : Prop where
  ex : ∃ (f : Addr) (fd : FuncData), Meth K C m f ∧ FnOk P w K mg base CX0 k f fd ps sp ∧ Binds K fd ps []
theorem MetAt.meth {K : PySem.W.Frag} {C : Addr} {m qual : Str} {st : Stmt} {ps : List Str} (M : MetAt K C m qual st ps) : ∃ (f : Addr) (fd : FuncData), Meth K C m f ∧ Fun K m qual st f fd ∧ Binds K fd ps [] := by
  obtain ⟨f, fd, iC, tI, F, b⟩ := M.ex
  exact ⟨f, fd, ⟨iC, by unfold PySem.W.isFn; rw [tI]; exact beq_self_eq_true _, F.kp⟩, F, b⟩
/-- a method some of whose last parameters have defaults: sp speaks of what is written -/
structure MCalD (P : Program) (w : World) (K : PySem.W.Frag) (mg : Str → Option Value) (base : Heap) (C : Addr) (m : Str) (k : Nat) (ps : List Str) (sp : Sp) : Prop where
  ex : ∃ (f : Addr) (fd : FuncData) (sp' : Sp) (dvs : List V) (ds : List Value), Meth K C m f ∧ FnOk P w K mg base CX0 k f fd ps sp' ∧ Vals dvs ds ∧ Binds K fd ps ds ∧ ∀ vs H Q E, sp vs H Q E → sp' (vs ++ dvs) H Q E
/-- a method as it stands, with a tuple of defaults -/
structure MetAtD (K : PySem.W.Frag) (C : Addr) (m qual : Str) (st : Stmt) (ps : List Str) (dvs : List V) : Prop where
  ex : ∃ (f : Addr) (fd : FuncData) (ds : List Value), PySem.W.findIn K (.ref C) m = some (some (.ref f)) ∧ PySem.W.typeIn K (.ref f) = some (.type "function") ∧ FunD K m qual (defArgs st) (defBody st) (defScope st) dvs [] f fd ∧ Vals dvs ds ∧ Binds K fd ps ds
theorem MetAtD.meth {K : PySem.W.Frag} {C : Addr} {m qual : Str} {st : Stmt} {ps : List Str} {dvs : List V} (M : MetAtD K C m qual st ps dvs) : ∃ (f : Addr) (fd : FuncData) (ds : List Value), Meth K C m f ∧ FunD K m qual (defArgs st) (defBody st) (defScope st) dvs [] f fd ∧ Vals dvs ds ∧ Binds K fd ps ds := by
  obtain ⟨f, fd, ds, iC, tI, F, v, b⟩ := M.ex
  exact ⟨f, fd, ds, ⟨iC, by unfold PySem.W.isFn; rw [tI]; exact beq_self_eq_true _, F.kp⟩, F, v, b⟩
section
variable {X : Cx} {k j : Nat} {C : Addr} {x m : Str} {ps : List Str} {sp : Sp} {p pos apos : Pos} {e o : Expr} {es : List Expr} {ta : TE} {t : TA} {pl : Sem Bool}
theorem pe_ownM (M : MCal X.prog X.w X.K X.mg X.base C m k ps sp) (c : Cls X.K C) (hr : Room j X.A) (hk : k ≤ j) (ho : PE X o ta) (ha : PA X (e :: es) t)
    (hst : starEach (e :: es) X.env = (false, eval e X.env) :: starEach es X.env := by rfl) (hpl : (backTo pos (starEach es X.env)).any (·.1) = false := by rfl)
    (ht : eval (.Call (.Attribute o m apos) (e :: es) [] pos) X.env = (do
      let ov ← eval o X.env
      standAt apos.atName
      let (f, first) ← holding [ov] (getMethod ov m pl)
      callWith pos f first (backTo pos (starEach (e :: es) X.env)) (backToKw pos (keywordEach [] X.env))) := by rfl) : PE X (.Call (.Attribute o m apos) (e :: es) [] pos) (tMeth C m sp [] E0 ta t) := by
  obtain ⟨f, fd, me, F, b⟩ := M.ex
  exact pe_meth (pl := pl) ho c me F (hr.mono hk) b .nil pass0 ha hst hpl ht
theorem pe_ownM0 (M : MCal X.prog X.w X.K X.mg X.base C m k ps sp) (c : Cls X.K C) (hr : Room j X.A) (hk : k ≤ j) (ho : PE X o ta)
    (ht : eval (.Call (.Attribute o m apos) [] [] pos) X.env = (do
      let ov ← eval o X.env
      standAt apos.atName
      let (f, first) ← holding [ov] (getMethod ov m pl)
      callWith pos f first (backTo pos (starEach [] X.env)) (backToKw pos (keywordEach [] X.env))) := by rfl) : PE X (.Call (.Attribute o m apos) [] [] pos) (tMeth C m sp [] E0 ta tNil) := by
  obtain ⟨f, fd, me, F, b⟩ := M.ex
  exact pe_meth0 (pl := pl) ho c me F (hr.mono hk) b .nil pass0 ht
/-- C(..) by its own __init__ -/
theorem pe_ownMk (M : MCal X.prog X.w X.K X.mg X.base C "__init__" k ps sp) (mk : PySem.W.makesIn X.K C = true) (kp : PySem.W.keepIn X.K (.ref C) = true) (hr : Room j X.A) (hk : k + 1 ≤ j) (hm : X.mg x = some (.ref C)) (ha : PA X (e :: es) t) (hg : Gl X x := by rfl)
    (hdb : (x == ("__debug__" : Str)) = false := by decide) (he : starEach (e :: es) X.env = (false, eval e X.env) :: starEach es X.env := by rfl) (hpl : (backTo pos (starEach es X.env)).any (·.1) = false := by rfl) :
    PE X (.Call (.Name x p) (e :: es) [] pos) (tMake C sp [] E0 t) := by
  obtain ⟨f, fd, me, F, b⟩ := M.ex
  exact pe_make ⟨mk, me.at_, me.fn, kp⟩ F (hr.mono hk) hg hm b .nil pass0 ha hdb he hpl
/-- C(..) by its own __init__, the defaults left out -/
theorem pe_ownMkD (M : MCalD X.prog X.w X.K X.mg X.base C "__init__" k ps sp) (mk : PySem.W.makesIn X.K C = true) (kp : PySem.W.keepIn X.K (.ref C) = true) (hr : Room j X.A) (hk : k + 1 ≤ j) (hm : X.mg x = some (.ref C)) (ha : PA X (e :: es) t) (hg : Gl X x := by rfl)
    (hdb : (x == ("__debug__" : Str)) = false := by decide) (he : starEach (e :: es) X.env = (false, eval e X.env) :: starEach es X.env := by rfl) (hpl : (backTo pos (starEach es X.env)).any (·.1) = false := by rfl) :
    PE X (.Call (.Name x p) (e :: es) [] pos) (tMake C sp [] E0 t) := by
  obtain ⟨f, fd, sp', dvs, ds, me, F, v, b, im⟩ := M.ex
  refine ⟨fun pins s σ H Q I h => ?_⟩
  refine wpAny_Call_Name_kw (ld_glob I hg hm ?_ hdb)
  refine PySem.W.callWith_K (h₀ := X.base) I.ok.mod.kin kp (thn (ha.run pos pins s σ H _ I h) fun us s1 ⟨vs, H1, I1, r, q⟩ => ⟨I1.kIn, ?_⟩) he hpl
  refine run_make ⟨mk, me.at_, me.fn, kp⟩ F (hr.mono hk) b v pass0 I1 r fun x dx h1 h2 h3 => ?_
  have q := q x dx h1 h2 h3
  rw [List.append_nil] at q
  exact im (.ref x :: vs) _ _ _ q
end
theorem putF_end {f : Str} {v : V} : ∀ {fs : List (Str × V)}, (∀ p ∈ fs, p.1 ≠ f) → putF f v fs = fs ++ [(f, v)]
  | [], _ => rfl
  | p :: r, h => by
    show (if p.1 = f then _ else _) = _
    rw [if_neg (h p List.mem_cons_self), putF_end fun q hq => h q (List.mem_cons_of_mem _ hq)]
    rfl
theorem sTP : ("table" : Str) ≠ "painted" := by decide +kernel
theorem sTW : ("table" : Str) ≠ "walker" := by decide +kernel
theorem sPW : ("painted" : Str) ≠ "walker" := by decide +kernel
theorem sTG : ("table" : Str) ≠ "ground" := by decide +kernel
theorem sGP : ("ground" : Str) ≠ "painted" := by decide +kernel
theorem sGW : ("ground" : Str) ≠ "walker" := by decide +kernel
theorem strF0 (tv gv : V) : putF "ground" gv [("table", tv)] = ([("table", tv), ("ground", gv)] : List (Str × V)) := putF_end fun p hp => by
  rw [List.mem_singleton.mp hp]
  exact sTG
theorem strF1 (tv gv : V) (D : Addr) : putF "painted" (.ref D) [("table", tv), ("ground", gv)] = ([("table", tv), ("ground", gv), ("painted", .ref D)] : List (Str × V)) := putF_end fun p hp => by
  rcases List.mem_cons.mp hp with rfl | hp
  · exact sTP
  · rw [List.mem_singleton.mp hp]
    exact sGP
theorem strF2 (tv gv : V) (D : Addr) (wv : V) : putF "walker" wv [("table", tv), ("ground", gv), ("painted", .ref D)] = strF tv gv D wv := putF_end fun p hp => by
  rcases List.mem_cons.mp hp with rfl | hp
  · exact sTW
  · rcases List.mem_cons.mp hp with rfl | hp
    · exact sGW
    · rw [List.mem_singleton.mp hp]
      exact sPW
theorem strF3 (tv gv : V) (D : Addr) (wv wv' : V) : putF "walker" wv' (strF tv gv D wv) = strF tv gv D wv' := by
  show (if ("table" : Str) = "walker" then _ else (("table" : Str), tv) :: (if ("ground" : Str) = "walker" then _ else (("ground" : Str), gv) :: (if ("painted" : Str) = "walker" then _ else (("painted" : Str), V.ref D) :: (if ("walker" : Str) = "walker" then _ else _)))) = _
  rw [if_neg sTW, if_neg sGW, if_neg sPW, if_pos rfl]
theorem lkT (tv gv : V) (D : Addr) (wv : V) : (strF tv gv D wv).lookup ("table" : Str) = some tv := by
  simp only [List.lookup_cons, beq_self_eq_true]
theorem lkG (tv gv : V) (D : Addr) (wv : V) : (strF tv gv D wv).lookup ("ground" : Str) = some gv := by
  simp only [List.lookup_cons, beq_self_eq_true, show (("ground" : Str) == "table") = false from beq_false_of_ne (Ne.symm sTG)]
theorem lkP (tv gv : V) (D : Addr) (wv : V) : (strF tv gv D wv).lookup ("painted" : Str) = some (.ref D) := by
  simp only [List.lookup_cons, beq_self_eq_true, show (("painted" : Str) == "table") = false from beq_false_of_ne (Ne.symm sTP), show (("painted" : Str) == "ground") = false from beq_false_of_ne (Ne.symm sGP)]
theorem lkW (tv gv : V) (D : Addr) (wv : V) : (strF tv gv D wv).lookup ("walker" : Str) = some wv := by
  simp only [List.lookup_cons, beq_self_eq_true, show (("walker" : Str) == "table") = false from beq_false_of_ne (Ne.symm sTW), show (("walker" : Str) == "ground") = false from beq_false_of_ne (Ne.symm sGW), show (("walker" : Str) == "painted") = false from beq_false_of_ne (Ne.symm sPW)]
/-- a name that is no field -/
theorem lkNo {n : Str} (tv gv : V) (D : Addr) (wv : V) (h : ((n == "table") || ((n == "ground") || ((n == "painted") || (n == "walker")))) = false) : (strF tv gv D wv).lookup n = none := by
  rw [Bool.or_eq_false_iff, Bool.or_eq_false_iff, Bool.or_eq_false_iff] at h
  simp only [List.lookup_cons, List.lookup_nil, h.1, h.2.1, h.2.2.1, h.2.2.2]
theorem small3k {n : Nat} (h : n ≤ 3000) : n < sizeLine := Nat.lt_of_le_of_lt h (by decide)
theorem tab_get {K : PySem.W.Frag} {H : Hp} {T : List (List Ent)} {c n : Nat} (ok : TabOk c n T) {s k : Int} (hs : 0 ≤ s ∧ s < n) (hk : 0 ≤ k ∧ k < c) {tv : V} (hv : Tp K H tv (tabD T)) :
    ∃ a vs b ws ev, tv = .ref a ∧ SqT K H a vs ∧ atI vs s = some (.ref b) ∧ SqT K H b ws ∧ atI ws k = some ev ∧ Tp K H ev (entD (entAt T s k)) := by
  obtain ⟨a, vs, rfl, h1, h2⟩ := hv.tupI
  obtain ⟨r, e1, lr, e2, _⟩ := entAt_ok ok hs hk
  obtain ⟨rv, e3, h3⟩ := h2.get (i := s.toNat) (d := rowD r) (by rw [List.getElem?_map, e1]; rfl)
  obtain ⟨b, ws, rfl, h4, h5⟩ := h3.tupI
  obtain ⟨ev, e4, h6⟩ := h5.get (i := k.toNat) (d := entD (entAt T s k)) (by rw [List.getElem?_map, e2]; rfl)
  refine ⟨a, vs, b, ws, ev, rfl, h1, ?_, h4, ?_, h6⟩
  · rw [show s = (s.toNat : Int) by omega]
    exact atI_nat e3
  · rw [show k = (k.toNat : Int) by omega]
    exact atI_nat e4
theorem col_get (m : CM) (p : Pt) : ((look m p).map V.int).getD (.int 0) = .int (col m p) := by
  unfold col
  cases look m p <;> rfl
theorem isD_dT {H : Hp} {a : Addr} {kvs : List (List Key × V)} (h : H a = some (.dT kvs)) : IsD H a := .inr ⟨kvs, .inl h⟩
section
variable {P : Program} {w : World} {K : PySem.W.Frag} {mg : Str → Option Value} {base : Heap}
theorem ok_Stroll_init {C BA : Addr} (S : ClsS K mg C) (hB : ∀ H, Tp K H (.ref BA) blankD) (M : MetAtD K C "__init__" "Stroll.__init__" s_Stroll_init ["self", "table", "floor", "walker", "ground"] [.ref BA]) (C_painted_places : Cal P w K mg base CX0 "painted_places" 1 ["floor"] (spPlaces K)) : MCalD P w K mg base C "__init__" 2 ["self", "table", "floor", "walker", "ground"] (spInit3 K C) := by
  obtain ⟨f, fd, ds, me, F, v, b⟩ := M.meth
  refine ⟨f, fd, spInit K C, _, ds, me, F.ok sc_Stroll_init (fun vs H Q E h => ?_) (fun cdv A outer s H vs Q E hr h => ?_), v, b, fun vs H Q E h => ?_⟩
  · obtain ⟨a, dx, tv, fv, wv, gv, T, F, wk, rfl, _⟩ := h
    rfl
  · obtain ⟨a, dx, tv, fv, wv, gv, T, Fl, wk, rfl, ha, hgr, ht, hf, hw, asc, nz, hl, q⟩ := h
    refine ⟨_, (pss_cons (k_sfld (K := K) (pv 0) (pv 1) (by rfl))
      (pss_cons (k_sfld (K := K) (pv 0) (pv 4) (by rfl))
      (pss_cons (k_sfld (K := K) (pv 0) (pe_own C_painted_places hr (by first | decide | omega) (pa_cons (pv 2) pa_nil)) (by rfl))
      (pss_one (k_sfld (K := K) (pv 0) (pv 3) (by rfl)))))), ?_⟩
    have cl := S.cl
    have nT := S.nT
    have nG := S.nG
    have nP := S.nP
    have nW := S.nW
    have l0 : ([] : List (Str × V)).length < 1000 := by decide
    have k1 : KeepE [a] H (upd (upd H a (.ins C dx (putF "table" tv []))) a (.ins C dx (putF "ground" gv (putF "table" tv [])))) := (KeepE.put List.mem_cons_self).trans (KeepE.put List.mem_cons_self)
    have t1 : TK H (upd (upd H a (.ins C dx (putF "table" tv []))) a (.ins C dx (putF "ground" gv (putF "table" tv [])))) := KeepE.tk (E := [a]) k1 fun b hb => by
      rw [List.mem_singleton.mp hb]
      exact Soft.ins ha
    have ha1 : (upd (upd H a (.ins C dx (putF "table" tv []))) a (.ins C dx (putF "ground" gv (putF "table" tv [])))) a = some (.ins C dx [("table", tv), ("ground", gv)]) := by
      rw [upd_same]
      show some (HO.ins C dx (putF "ground" gv [("table", tv)])) = _
      rw [strF0]
    have hf1 := Tp.mono t1 _ _ hf
    have l1 : (putF "table" tv ([] : List (Str × V))).length < 1000 := by show 1 < 1000; decide
    walk_at "st"
    generalize hH1 : upd (upd H a (.ins C dx (putF "table" tv []))) a (.ins C dx (putF "ground" gv (putF "table" tv []))) = H1 at *
    intro D H2 nD hD s1
    have ha2 : H2 a = some (.ins C dx [("table", tv), ("ground", gv)]) := s1 _ _ ha1
    have neD : D ≠ a := fun z => by
      rw [z, ha1] at nD
      cases nD
    have nD0 : H D = none := by
      cases e : H D with
      | none => rfl
      | some o =>
        rw [k1 D o (fun z => neD (List.mem_singleton.mp z)) e] at nD
        cases nD
    have l2 : ([("table", tv), ("ground", gv)] : List (Str × V)).length < 1000 := by show 2 < 1000; decide
    walk_at "st"
    have ha3 : (upd H2 a (.ins C dx (putF "painted" (.ref D) [("table", tv), ("ground", gv)]))) a = some (.ins C dx [("table", tv), ("ground", gv), ("painted", .ref D)]) := by rw [upd_same, strF1]
    have l3 : ([("table", tv), ("ground", gv), ("painted", .ref D)] : List (Str × V)).length < 1000 := by show 3 < 1000; decide
    walk_at "st"
    have k2 : KeepE [a] H2 (upd (upd H2 a (.ins C dx (putF "painted" (.ref D) [("table", tv), ("ground", gv)]))) a (.ins C dx (putF "walker" wv [("table", tv), ("ground", gv), ("painted", .ref D)]))) := (KeepE.put List.mem_cons_self).trans (KeepE.put List.mem_cons_self)
    have t2 : TK H (upd (upd H2 a (.ins C dx (putF "painted" (.ref D) [("table", tv), ("ground", gv)]))) a (.ins C dx (putF "walker" wv [("table", tv), ("ground", gv), ("painted", .ref D)]))) := by
      refine (t1.trans (Same.tk s1)).trans (k2.tk fun b hb => ?_)
      rw [List.mem_singleton.mp hb]
      exact Soft.ins ha2
    refine q D _ nD0 ⟨⟨dx, tv, gv, wv, by rw [upd_same, strF1, strF2], Tp.mono t2 _ _ ht, Tp.mono t2 _ _ hw, Tp.mono t2 _ _ hgr⟩, by rw [upd_ne neD, upd_ne neD]; exact hD, asc_nd asc, fun e he => ?_⟩ ?_
    · obtain ⟨s', hs', rfl⟩ := List.mem_map.mp he
      exact nz s' hs'
    · exact (k1.trans (Same.keepE s1)).trans k2
  · obtain ⟨a, dx, tv, fv, wv, T, Fl, wk, rfl, ha, rest⟩ := h
    exact ⟨a, dx, tv, fv, wv, .ref BA, T, Fl, wk, rfl, ha, hB H, rest⟩
theorem ok_Stroll_col {C : Addr} (S : ClsS K mg C) (M : MetAt K C "colour_of" "Stroll.colour_of" s_Stroll_colour_of ["self", "place"]) : MCal P w K mg base C "colour_of" 1 ["self", "place"] (spColOf K C) := by
  obtain ⟨f, fd, me, F, b⟩ := M.meth
  refine ⟨f, fd, me, F.ok sc_Stroll_colour_of (fun vs H Q E h => ?_) (fun cdv A outer s H vs Q E hr h => ?_), b⟩
  · obtain ⟨a, D, p, T, m, wk, x, y, rfl, _⟩ := h
    rfl
  · obtain ⟨a, D, p, T, m, wk, x, y, rfl, hS, hp, q⟩ := h
    refine ⟨_, (pss_one (ps_ret (pe_dget2 (hu_of hr) (k_fld (K := K) (pv 0) (by rfl)) (pv 1) pe_int (by exact ⟨rfl, rfl, rfl, rfl⟩)))), ?_⟩
    have cl := S.cl
    have nP := S.nP
    obtain ⟨⟨dx, tv, gv, wv, ha, ht, hw, hgr⟩, hD, nd, nz⟩ := hS
    have fP := lkP tv gv D wv
    have dD := isD_dT hD
    have cg := col_get m (x, y)
    have hg : DGet H D (.ref p) (valV (cellK m) (ptK (x, y))) := DGet.t hD hp
    rw [cell_val] at hg
    walk_at "st"
    rw [cg]
    exact q
theorem ok_Stroll_paint {C : Addr} (S : ClsS K mg C) (M : MetAt K C "paint" "Stroll.paint" s_Stroll_paint ["self", "place", "colour"]) (C_paint_square : Cal P w K mg base CX0 "paint_square" 1 ["painted", "place", "colour"] spPaint) : MCal P w K mg base C "paint" 2 ["self", "place", "colour"] (spPaintO K C) := by
  obtain ⟨f, fd, me, F, b⟩ := M.meth
  refine ⟨f, fd, me, F.ok sc_Stroll_paint (fun vs H Q E h => ?_) (fun cdv A outer s H vs Q E hr h => ?_), b⟩
  · obtain ⟨a, D, p, T, m, wk, x, y, c, rfl, _⟩ := h
    rfl
  · obtain ⟨a, D, p, T, m, wk, x, y, c, rfl, hS, hp, hl, q⟩ := h
    refine ⟨_, (pss_one (ps_expr (pe_own C_paint_square hr (by first | decide | omega) (pa_cons (k_fld (K := K) (pv 0) (by rfl)) (pa_cons (pv 1) (pa_cons (pv 2) pa_nil)))))), ?_⟩
    have cl := S.cl
    have nP := S.nP
    obtain ⟨⟨dx, tv, gv, wv, ha, ht, hw, hgr⟩, hD, nd, nz⟩ := hS
    have fP := lkP tv gv D wv
    walk_at "st"
    intro H' hD' k'
    walk_at "st"
    exact q H' hD' k'
end

theorem step_none {T : List (List Ent)} {z : WSt} (h : entAt T z.2.2.2.2 (z.1 (wPt z.2)) = none) : stepW T z = none := by
  unfold stepW
  rw [h]
  rfl
theorem step_some {T : List (List Ent)} {z : WSt} {e : Int × Int × Int} (h : entAt T z.2.2.2.2 (z.1 (wPt z.2)) = some e) : stepW T z = some (dab z.1 (wPt z.2) e.1, behind z.2 e) := by
  unfold stepW
  rw [h]
  rfl
theorem StrAt.mv {K : PySem.W.Frag} {C : Addr} {H H' : Hp} {a D : Addr} {T : List (List Ent)} {m : CM} {w : Wk} (h : StrAt K C H a D T m w) (t : TK H H') (ea : H' a = H a) (ed : H' D = H D) : StrAt K C H' a D T m w := by
  obtain ⟨⟨dx, tv, gv, wv, e, h1, h2, h3⟩, hD, nd, nz⟩ := h
  exact ⟨⟨dx, tv, gv, wv, ea.trans e, Tp.mono t _ _ h1, Tp.mono t _ _ h2, Tp.mono t _ _ h3⟩, ed.trans hD, nd, nz⟩
theorem StrAt.same {K : PySem.W.Frag} {C : Addr} {H H' : Hp} {a D : Addr} {T : List (List Ent)} {m : CM} {w : Wk} (h : StrAt K C H a D T m w) (s : Same H H') : StrAt K C H' a D T m w := by
  obtain ⟨dx, tv, gv, wv, e, _⟩ := h.ob
  exact h.mv (Same.tk s) ((s _ _ e).trans e.symm) ((s _ _ h.dc).trans h.dc.symm)

/-! ### what a stroll tells of its steps -/
def toldD (T : List (List Ent)) (y : WSt) : PyData := .tuple [wkD y.2, .int (y.1 (wPt y.2)), .int (((entAt T y.2.2.2.2 (y.1 (wPt y.2))).map (·.1)).getD 0)]
def toldL (T : List (List Ent)) (z : WSt) : Nat → List PyData
  | 0 => []
  | k + 1 => toldL T z k ++ (match runW T k z with | some y => [toldD T y] | none => [])
theorem toldL_some {T : List (List Ent)} {z y : WSt} {k : Nat} {e : Int × Int × Int} (h : runW T k z = some y) (he : entAt T y.2.2.2.2 (y.1 (wPt y.2)) = some e) : toldL T z (k + 1) = toldL T z k ++ [.tuple [wkD y.2, .int (y.1 (wPt y.2)), .int e.1]] := by
  show toldL T z k ++ (match runW T k z with | some y => [toldD T y] | none => []) = _
  rw [h]
  show toldL T z k ++ [toldD T y] = _
  unfold toldD
  rw [he]
  rfl
def spGo2 (K : PySem.W.Frag) (C : Addr) : Sp := fun vs H Q _ => ∃ (a D : Addr) (T : List (List Ent)) (m : CM) (w : Wk) (c n : Nat) (B many : Int), vs = [.ref a, .int many] ∧ StrAt K C H a D T m w ∧ TabOk c n T ∧ Fit c n B (col m, w) ∧ (m.length : Int) + many ≤ 3000 ∧ 0 ≤ many ∧
  ∀ (L : Addr) (vs' : List V) (i : Nat) (m' : CM) (w' : Wk) H', H L = none → Ends T (col m, w) many.toNat i (col m', w') → StrAt K C H' a D T m' w' → m'.length ≤ m.length + i → H' L = some (.lst vs') → vs'.length = i → KeepE [a, D] H H' → TpAll K H' vs' (toldL T (col m, w) i) → Q (.ref L) H'
section
variable {P : Program} {w : World} {K : PySem.W.Frag} {mg : Str → Option Value} {base : Heap}
theorem ok_Stroll_go2 (T : Txt K mg) {C : Addr} (S : ClsS K mg C) (MCl : MCal P w K mg base C "colour_of" 1 ["self", "place"] (spColOf K C)) (MPa : MCal P w K mg base C "paint" 2 ["self", "place", "colour"] (spPaintO K C)) (M : MetAt K C "go" "Stroll.go" s_Stroll_go ["self", "many"]) (C_walker_behind : Cal P w K mg base CX0 "_walker_behind" 1 ["walker", "entry"] (spBehind K)) : MCal P w K mg base C "go" 3 ["self", "many"] (spGo2 K C) := by
  obtain ⟨f, fd, me, F, b⟩ := M.meth
  refine ⟨f, fd, me, F.ok sc_Stroll_go (fun vs H Q E h => ?_) (fun cdv A outer s H vs Q E hr h => ?_), b⟩
  · obtain ⟨a, D, Tb, m, wk, c, n, B, many, rfl, _⟩ := h
    rfl
  · obtain ⟨a, D, Tb, m, wk, c, n, B, many, rfl, hS, ok, fit, hm2, h0, q⟩ := h
    refine ⟨_, (pss_cons (ps_set (i := 2) sc_Stroll_go.nd rfl (Or.inl rfl) (pe_lst pa_nil))
      (pss_cons (ps_for PassesOwn.never rfl (pi_range1 (by rfl) T.m_range (pa_cons (pv 1) pa_nil)) (pg_name (i := 3) sc_Stroll_go.nd rfl (Or.inl rfl))
      (pss_cons (ps_set (i := 4) sc_Stroll_go.nd rfl (Or.inl rfl) (pe_slice (k_sl_tup (K := K)) (k_fld (K := K) (pv 0) (by rfl)) po_none (po_some pe_int)))
      (pss_cons (ps_set (i := 5) sc_Stroll_go.nd rfl (Or.inl rfl) (pe_ownM MCl S.cl hr (by decide) (pv 0) (pa_cons (pv 4) pa_nil)))
      (pss_cons (ps_set (i := 6) sc_Stroll_go.nd rfl (Or.inl rfl) (pe_ix (k_ix_tup (K := K)) (pe_ix (k_ix_tup (K := K)) (k_fld (K := K) (pv 0) (by rfl)) (pe_ix (k_ix_tup (K := K)) (k_fld (K := K) (pv 0) (by rfl)) pe_int (fun _ _ => rfl)) (fun _ _ => rfl)) (pv 5) (fun _ _ => rfl)))
      (pss_cons (ps_if (pt_cmpR op_isN (pv 6) pe_non (nomark _)) (pss_one ps_break) pss_nil)
      (pss_cons (ps_expr (pe_ownM MPa S.cl hr (by decide) (pv 0) (pa_cons (pv 4) (pa_cons (pe_ix (k_ix_tup (K := K)) (pv 6) pe_int (fun _ _ => rfl)) pa_nil))))
      (pss_cons (ps_expr (pe_bm PySem.F.plainAttrs_list PySem.F.slot_list_append PySem.F.type_list_append mt_append (pv 2) (pa_cons (pe_tup (pa_cons (k_fld (K := K) (pv 0) (by rfl)) (pa_cons (pv 5) (pa_cons (pe_ix (k_ix_tup (K := K)) (pv 6) pe_int (fun _ _ => rfl)) pa_nil)))) pa_nil)))
      (pss_one (k_sfld (K := K) (pv 0) (pe_own C_walker_behind hr (by first | decide | omega) (pa_cons (k_fld (K := K) (pv 0) (by rfl)) (pa_cons (pv 6) pa_nil))) (by rfl))))))))))
      (pss_one (ps_ret (pv 2))))), ?_⟩
    have cl := S.cl
    have nT := S.nT
    have nP := S.nP
    have nW := S.nW
    walk_at "st"
    intro L nL
    have soft := hS.soft
    have nLa : L ∉ [a, D] := fun z => by
      obtain ⟨dx, tv, gv, wv, e, _⟩ := hS.ob
      rcases List.mem_cons.mp z with z | z
      · rw [z, e] at nL
        cases nL
      · rw [List.mem_singleton.mp z, hS.dc] at nL
        cases nL
    walk_at "st"
    refine for_range (lo := 0) (n := many.toNat) (fun i σ H' => Ok (∃ (y3 y4 y5 y6 : Option V) (vs' : List V) (m' : CM) (w' : Wk), σ = [some (.ref a), some (.int many), some (.ref L), y3, y4, y5, y6] ∧
      runW Tb i (col m, wk) = some (col m', w') ∧ StrAt K C H' a D Tb m' w' ∧ m'.length ≤ m.length + i ∧ H' L = some (.lst vs') ∧ vs'.length = i ∧ KeepE [a, D] H H' ∧ TpAll K H' vs' (toldL Tb (col m, wk) i))) ?_ ?_ ?_
    · exact ⟨_, _, _, _, [], m, wk, rfl, rfl, hS.same (Same.new nL), Nat.le_refl _, upd_same, rfl, KeepE.new nL, .nil⟩
    · rintro i σ H' hi ⟨y3, y4, y5, y6, vs', m', w', rfl, hrun, hS', hml, hL, hvl, kp, htl⟩
      have fit' := fit.run ok hrun
      have softS := hS'.soft
      have neaD := hS'.ne
      obtain ⟨⟨dx, tv, gv, wv, ha, ht, hw, hgr⟩, hD, nd, nz⟩ := id hS'
      have fT := lkT tv gv D wv
      have noC := lkNo (n := "colour_of") tv gv D wv (by decide +kernel)
      have fW := lkW tv gv D wv
      obtain ⟨wa, rfl, hsw⟩ := hw.int4
      have cb := fit'.cols (wPt w')
      have stb := fit'.st
      have neLD : L ≠ D := fun z => nLa (z ▸ List.mem_cons_of_mem _ List.mem_cons_self)
      have neLa : L ≠ a := fun z => nLa (z ▸ List.mem_cons_self)
      walk_at "st"
      intro p np
      have s1 : Same H' (upd H' p (.tup [.int w'.1, .int w'.2.1])) := Same.new np
      have hp1 : (upd H' p (.tup [.int w'.1, .int w'.2.1])) p = some (.tup [.int w'.1, .int w'.2.1]) := upd_same
      generalize hH1 : upd H' p (.tup [.int w'.1, .int w'.2.1]) = H1 at s1 hp1
      have ha1 := s1 _ _ ha
      have hD1 := s1 _ _ hD
      have hL1 := s1 _ _ hL
      have hsw1 := TK.seqT (Same.tk s1) hsw
      have hw1 := Tp.mono (Same.tk s1) _ _ hw
      obtain ⟨ta, tvs, rb, rws, ev, rfl, h1, h2, h3, h4, h5⟩ := tab_get ok stb cb (Tp.mono (Same.tk s1) _ _ ht)
      have kp1 : KeepE [a, D] H H1 := kp.trans (Same.keepE s1)
      have hS1 := hS'.same s1
      rw [show (upd H' p (.tup (cutV [.int w'.1, .int w'.2.1, .int w'.2.2.1, .int w'.2.2.2] none (some 2)))) = H1 from hH1]
      cases he : entAt Tb w'.2.2.2 (col m' (wPt w')) with
      | none =>
        have h5 : Tp K H1 ev (entD none) := he ▸ h5
        obtain rfl := h5.nonI
        walk_at "st"
        exact q L vs' i m' w' H1 nL ⟨hrun, Nat.le_of_lt hi, .inr (step_none he)⟩ hS1 hml hL1 hvl kp1 (TpAll.mono (Same.tk s1) _ _ htl)
      | some e =>
        have h5 : Tp K H1 ev (entD (some e)) := he ▸ h5
        obtain ⟨u, rfl, hse⟩ := h5.int3
        have hm3 : m'.length ≤ 3000 := by omega
        have noP := lkNo (n := "paint") (.ref ta) gv D (.ref wa) (by decide +kernel)
        walk_at "st"
        intro H2 hD2 k2
        have softD : ∀ b ∈ [D], Soft H1 b := fun b hb => by
          rw [List.mem_singleton.mp hb]
          exact Soft.dT hD1
        have t2 : TK H1 H2 := k2.tk softD
        have ha2 : H2 a = some (.ins C dx (strF (.ref ta) gv D (.ref wa))) := k2 _ _ (fun z => neaD (List.mem_singleton.mp z)) ha1
        have hL2 : H2 L = some (.lst vs') := k2 _ _ (fun z => neLD (List.mem_singleton.mp z)) hL1
        have hse2 := t2.seqT hse
        have hw2 := Tp.mono t2 _ _ hw1
        have h52 := Tp.mono t2 _ _ h5
        have ht1 := Tp.mono (Same.tk s1) _ _ ht
        have kp2 : KeepE [a, D] H H2 := kp1.trans (k2.mono fun b hb => List.mem_cons_of_mem _ hb)
        walk_at "st"
        intro t nt
        rw [show col m' (w'.1, w'.2.1) = col m' (wPt w') from rfl]
        have hsz : vs'.length < sizeLine := small3k (by omega)
        have hL3 : (upd H2 t (.tup [.ref wa, .int (col m' (wPt w')), .int e.1])) L = some (.lst vs') := by rw [upd_ne (ne_of_none hL2 nt)]; exact hL2
        have s3 : Same H2 (upd H2 t (.tup [.ref wa, .int (col m' (wPt w')), .int e.1])) := Same.new nt
        walk_at "st"
        have t4 : TK H2 (upd (upd H2 t (.tup [.ref wa, .int (col m' (wPt w')), .int e.1])) L (.lst (vs' ++ [.ref t]))) := (Same.tk s3).trans (TK.lst hL3)
        have ha4 : (upd (upd H2 t (.tup [.ref wa, .int (col m' (wPt w')), .int e.1])) L (.lst (vs' ++ [.ref t]))) a = some (.ins C dx (strF (.ref ta) gv D (.ref wa))) := by
          rw [upd_ne neLa.symm]
          exact s3 _ _ ha2
        have hD4 : (upd (upd H2 t (.tup [.ref wa, .int (col m' (wPt w')), .int e.1])) L (.lst (vs' ++ [.ref t]))) D = some (.dT (cellK (paintM m' (w'.1, w'.2.1) e.1))) := by
          rw [upd_ne neLD.symm]
          exact s3 _ _ hD2
        have hL4 : (upd (upd H2 t (.tup [.ref wa, .int (col m' (wPt w')), .int e.1])) L (.lst (vs' ++ [.ref t]))) L = some (.lst (vs' ++ [.ref t])) := upd_same
        have kp4 : KeepE [a, D] H (upd (upd H2 t (.tup [.ref wa, .int (col m' (wPt w')), .int e.1])) L (.lst (vs' ++ [.ref t]))) := (kp2.trans (Same.keepE s3)).fresh nL
        have hw4 := Tp.mono t4 _ _ hw2
        have hT4 : Tp K (upd (upd H2 t (.tup [.ref wa, .int (col m' (wPt w')), .int e.1])) L (.lst (vs' ++ [.ref t]))) (.ref t) (.tuple [wkD w', .int (col m' (wPt w')), .int e.1]) := .tup ((TK.lst hL3).seqT (SqT.of upd_same)) (.cons hw4 (.cons (.int _) (.cons (.int _) .nil)))
        have he4 := Tp.mono t4 _ _ h52
        have ht4 := Tp.mono ((t2).trans t4) _ _ ht1
        generalize hH4 : upd (upd H2 t (.tup [.ref wa, .int (col m' (wPt w')), .int e.1])) L (.lst (vs' ++ [.ref t])) = H4 at *
        walk_at "st"
        intro v H5 hv5 s5
        have ha5 := s5 _ _ ha4
        have l3 : (strF (.ref ta) gv D (.ref wa)).length < 1000 := by show 4 < 1000; decide
        walk_at "st"
        have soft5 : ∀ b ∈ [a], Soft H5 b := fun b hb => by
          rw [List.mem_singleton.mp hb]
          exact Soft.ins ha5
        have k6 : KeepE [a] H5 (upd H5 a (.ins C dx (putF "walker" v (strF (.ref ta) gv D (.ref wa))))) := KeepE.put List.mem_cons_self
        have t6 := k6.tk soft5
        have t06 := (Same.tk s1).trans (t2.trans (t4.trans ((Same.tk s5).trans t6)))
        have ec : col (paintM m' (w'.1, w'.2.1) e.1) = dab (col m') (wPt w') e.1 := paint_col _ _ nd
        refine ⟨_, _, _, _, vs' ++ [.ref t], paintM m' (w'.1, w'.2.1) e.1, behind w' e, rfl, ?_, ⟨⟨dx, .ref ta, gv, v, by rw [upd_same, strF3], Tp.mono ((Same.tk s5).trans t6) _ _ ht4, Tp.mono t6 _ _ hv5, Tp.mono ((Same.tk s1).trans (t2.trans (t4.trans ((Same.tk s5).trans t6)))) _ _ hgr⟩, ?_, paint_nd _ _ nd, paint_nz nz⟩, ?_, ?_, ?_, ?_, ?_⟩
        · show (runW Tb i (col m, wk)).bind (stepW Tb) = _
          rw [hrun, ec]
          exact step_some he
        · rw [upd_ne (Ne.symm neaD)]
          exact s5 _ _ hD4
        · have := paint_len m' (w'.1, w'.2.1) e.1
          omega
        · rw [upd_ne neLa]
          exact s5 _ _ hL4
        · rw [List.length_append, hvl]
          rfl
        · exact (kp4.trans (Same.keepE s5)).trans (k6.mono fun b hb => by rw [List.mem_singleton.mp hb]; exact List.mem_cons_self)
        · rw [toldL_some hrun he]
          exact TpAll.append (TpAll.mono t06 _ _ htl) (.cons (Tp.mono ((Same.tk s5).trans t6) _ _ hT4) .nil)
    · rintro σ H' ⟨y3, y4, y5, y6, vs', m', w', rfl, hrun, hS', hml, hL, hvl, kp, htl⟩
      walk_at "st"
      exact q L vs' many.toNat m' w' H' nL ⟨hrun, Nat.le_refl _, .inl rfl⟩ hS' hml hL hvl kp htl
end
theorem go_of2 {P : Program} {w : World} {K : PySem.W.Frag} {mg : Str → Option Value} {base : Heap} {C : Addr} (M : MCal P w K mg base C "go" 3 ["self", "many"] (spGo2 K C)) : MCal P w K mg base C "go" 3 ["self", "many"] (spGo K C) := by
  obtain ⟨f, fd, me, F, b⟩ := M.ex
  refine ⟨f, fd, me, F.imp fun vs H Q E h => ?_, b⟩
  obtain ⟨a, D, T, m, w, c, n, B, many, rfl, h1, h2, h3, h4, h5, q⟩ := h
  exact ⟨a, D, T, m, w, c, n, B, many, rfl, h1, h2, h3, h4, h5, fun L vs' i m' w' H' g1 g2 g3 g4 g5 g6 g7 _ => q L vs' i m' w' H' g1 g2 g3 g4 g5 g6 g7⟩

section
variable {P : Program} {w : World} {K : PySem.W.Frag} {mg : Str → Option Value} {base : Heap}
theorem ok_Stroll_reading {C : Addr} (S : ClsS K mg C) (MCl : MCal P w K mg base C "colour_of" 1 ["self", "place"] (spColOf K C)) (M : MetAt K C "reading" "Stroll.reading" s_Stroll_reading ["self"]) : MCal P w K mg base C "reading" 2 ["self"] (spReading K C) := by
  obtain ⟨f, fd, me, F, b⟩ := M.meth
  refine ⟨f, fd, me, F.ok sc_Stroll_reading (fun vs H Q E h => ?_) (fun cdv A outer s H vs Q E hr h => ?_), b⟩
  · obtain ⟨a, D, T, m, wk, rfl, _⟩ := h
    rfl
  · obtain ⟨a, D, T, m, wk, rfl, hS, q⟩ := h
    refine ⟨_, (pss_one (ps_ret (pe_tup (pa_cons (pe_ix (k_ix_tup (K := K)) (k_fld (K := K) (pv 0) (by rfl)) pe_int (fun _ _ => rfl)) (pa_cons (pe_ownM MCl S.cl hr (by decide) (pv 0) (pa_cons (pe_slice (k_sl_tup (K := K)) (k_fld (K := K) (pv 0) (by rfl)) po_none (po_some pe_int)) pa_nil)) pa_nil))))), ?_⟩
    have cl := S.cl
    have nP := S.nP
    have nW := S.nW
    obtain ⟨⟨dx, tv, gv, wv, ha, ht, hw, hgr⟩, hD, nd, nz⟩ := id hS
    have fW := lkW tv gv D wv
    have noC := lkNo (n := "colour_of") tv gv D wv (by decide +kernel)
    obtain ⟨wa, rfl, hsw⟩ := hw.int4
    walk_at "st"
    intro p np
    have s1 : Same H (upd H p (.tup [.int wk.1, .int wk.2.1])) := Same.new np
    refine ⟨a, D, p, T, m, wk, wk.1, wk.2.1, rfl, hS.same s1, upd_same, ?_⟩
    walk_at "st"
    intro p2 np2
    exact q _ _ (Tp.of_ints (ks := [_, _]) (SqT.of upd_same)) (Same.trans s1 (Same.new np2))
end

section
variable {P : Program} {w : World} {K : PySem.W.Frag} {mg : Str → Option Value} {base : Heap}
theorem ok_Stroll_stopped {C : Addr} (S : ClsS K mg C) (MR : MCal P w K mg base C "reading" 2 ["self"] (spReading K C)) (M : MetAt K C "has_stopped" "Stroll.has_stopped" s_Stroll_has_stopped ["self"]) : MCal P w K mg base C "has_stopped" 3 ["self"] (spStopped K C) := by
  obtain ⟨f, fd, me, F, b⟩ := M.meth
  refine ⟨f, fd, me, F.ok sc_Stroll_has_stopped (fun vs H Q E h => ?_) (fun cdv A outer s H vs Q E hr h => ?_), b⟩
  · obtain ⟨a, D, T, m, wk, c, n, B, rfl, _⟩ := h
    rfl
  · obtain ⟨a, D, T, m, wk, c, n, B, rfl, hS, ok, fit, q⟩ := h
    refine ⟨_, (pss_cons (ps_asg (pe_ownM0 MR S.cl hr (by decide) (pv 0)) (pg_tup (by rfl) (pgs_cons (pg_name (i := 1) sc_Stroll_has_stopped.nd rfl (Or.inl rfl)) (pgs_cons (pg_name (i := 2) sc_Stroll_has_stopped.nd rfl (Or.inl rfl)) pgs_nil))))
      (pss_one (ps_ret (pe_cmpR op_isN (pe_ix (k_ix_tup (K := K)) (pe_ix (k_ix_tup (K := K)) (k_fld (K := K) (pv 0) (by rfl)) (pv 1) (fun _ _ => rfl)) (pv 2) (fun _ _ => rfl)) pe_non (nomark _))))), ?_⟩
    have cl := S.cl
    have nT := S.nT
    obtain ⟨dx, tv, gv, wv, ha, ht, hw, hgr⟩ := id hS.ob
    have fT := lkT tv gv D wv
    have noR := lkNo (n := "reading") tv gv D wv (by decide +kernel)
    have cb := fit.cols (wPt wk)
    walk_at "st"
    intro v H1 hv s1
    obtain ⟨ra, rfl, hsr⟩ := hv.int2
    have ha1 := s1 _ _ ha
    obtain ⟨ta, tvs, rb, rws, ev, rfl, h1, h2, h3, h4, h5⟩ := tab_get ok fit.st cb (Tp.mono (Same.tk s1) _ _ ht)
    walk_at "st"
    refine q _ _ ?_ s1
    cases he : entAt T wk.2.2.2 (col m (wPt wk)) with
    | none =>
      have h5 : Tp K _ ev (entD none) := he ▸ h5
      rw [h5.nonI]
      exact ⟨fun _ => step_none he, fun _ => rfl⟩
    | some e =>
      have h5 : Tp K _ ev (entD (some e)) := he ▸ h5
      obtain ⟨u, rfl, _⟩ := h5.int3
      refine ⟨fun z => ?_, fun z => ?_⟩
      · exact absurd (of_decide_eq_true z) (by intro z; cases z)
      · rw [step_some he] at z
        cases z
end

/-! ### walk -/
/-- table, floor and walker that may be handed in -/
structure StandOk (c n : Nat) (B : Int) (T : List (List Ent)) (F : List Sq) (w : Wk) : Prop where
  tab : TabOk c n T
  good : tabB T = true
  n1 : 1 ≤ n
  c1 : 1 ≤ c
  fl : FlOk c B F
  wk : InB B (wPt w)
  hd : 0 ≤ w.2.2.1 ∧ w.2.2.1 < 4
  st : 0 ≤ w.2.2.2 ∧ w.2.2.2 < n
theorem StandOk.fit {c n : Nat} {B : Int} {T : List (List Ent)} {F : List Sq} {w : Wk} (h : StandOk c n B T F w) : Fit c n B (colF F, w) := h.fl.fit h.c1 h.wk h.hd h.st
theorem FlOk.mono {c : Nat} {B B' : Int} {F : List Sq} (h : FlOk c B F) (l : B ≤ B') : FlOk c B' F := ⟨h.asc, fun s hs => ⟨(h.sq s hs).1.mono l, (h.sq s hs).2⟩⟩
theorem StandOk.mono {c n : Nat} {B B' : Int} {T : List (List Ent)} {F : List Sq} {w : Wk} (h : StandOk c n B T F w) (l : B ≤ B') : StandOk c n B' T F w := ⟨h.tab, h.good, h.n1, h.c1, h.fl.mono l, h.wk.mono l, h.hd, h.st⟩
def spStand (K : PySem.W.Frag) : Sp := fun vs H Q _ => ∃ (tv fv wv : V) (c n : Nat) (T : List (List Ent)) (F : List Sq) (w : Wk), vs = [tv, fv, wv] ∧ Tp K H tv (tabD T) ∧ Tp K H fv (floorD F) ∧ Tp K H wv (wkD w) ∧ StandOk c n FarI T F w ∧ F.length ≤ 1000 ∧ ∀ H', Same H H' → Q .non H'
def stepD (F : List Sq) (w : Wk) : PyData := .tuple [floorD F, wkD w]
def walkD (F : List Sq) (w : Wk) (i : Nat) : PyData := .tuple [floorD F, wkD w, .int i]
def spWalk (K : PySem.W.Frag) : Sp := fun vs H Q _ => ∃ (tv fv wv : V) (many : Int) (c n : Nat) (T : List (List Ent)) (F : List Sq) (w : Wk), vs = [tv, fv, wv, .int many] ∧ Tp K H tv (tabD T) ∧ Tp K H fv (floorD F) ∧ Tp K H wv (wkD w) ∧ StandOk c n FarI T F w ∧ F.length ≤ 1000 ∧ 0 ≤ many ∧ many ≤ 1000 ∧
  ∀ v H' i F' z, Ends T (colF F, w) many.toNat i z → FloorOf z.1 F' → F'.length ≤ F.length + i → Tp K H' v (walkD F' z.2 i) → Same H H' → Q v H'
section
variable {P : Program} {w : World} {K : PySem.W.Frag} {mg : Str → Option Value} {base : Heap}
theorem ok_check_stand (T : Txt K mg) (D : DefAt K mg "check_stand" s_check_stand ["table", "floor", "walker"]) (C_check_table : Cal P w K mg base CX0 "check_table" 4 ["value"] (spCheckT K)) (C_check_floor : Cal P w K mg base CX0 "check_floor" 4 ["value", "colours"] (spFloorOk K)) (C_check_walker : Cal P w K mg base CX0 "check_walker" 4 ["value", "states"] (spCheckW K)) : Cal P w K mg base CX0 "check_stand" 5 ["table", "floor", "walker"] (spStand K) := by
  refine D.cal sc_check_stand (fun vs H Q E h => ?_) (fun f cdv A outer s H vs Q E hr h => ?_)
  · obtain ⟨tv, fv, wv, c, n, T, F, wk, rfl, _⟩ := h
    rfl
  · obtain ⟨tv, fv, wv, c, n, Tb, F, wk, rfl, ht, hf, hw, hs, hl, q⟩ := h
    refine ⟨_, (pss_cons (ps_expr (pe_own C_check_table hr (by first | decide | omega) (pa_cons (pv 0) pa_nil)))
      (pss_cons (ps_expr (pe_own C_check_floor hr (by first | decide | omega) (pa_cons (pv 1) (pa_cons (pe_callB (k_len_t (K := K)) (by rfl) T.m_len (by decide +kernel) (pa_cons (pe_ix (k_ix_tup (K := K)) (pv 0) pe_int (fun _ _ => rfl)) pa_nil)) pa_nil))))
      (pss_one (ps_expr (pe_own C_check_walker hr (by first | decide | omega) (pa_cons (pv 2) (pa_cons (pe_callB (k_len_t (K := K)) (by rfl) T.m_len (by decide +kernel) (pa_cons (pv 0) pa_nil)) pa_nil))))))), ?_⟩
    have hg := hs.good
    walk_at "st"
    intro H1 s1
    have ht1 := Tp.mono (Same.tk s1) _ _ ht
    have hf1 := Tp.mono (Same.tk s1) _ _ hf
    have hw1 := Tp.mono (Same.tk s1) _ _ hw
    obtain ⟨a, vs, rfl, h1, h2⟩ := ht1.tupI
    have hlen : vs.length = n := by rw [TpAll.length h2, List.length_map, hs.tab.1]
    have l0 : 0 < Tb.length := by rw [hs.tab.1]; exact hs.n1
    obtain ⟨rv, e3, h3⟩ := h2.get (i := 0) (d := rowD Tb[0]) (by rw [List.getElem?_map, List.getElem?_eq_getElem l0]; rfl)
    obtain ⟨b, ws, rfl, h4, h5⟩ := h3.tupI
    have hlen2 : ws.length = c := by
      rw [TpAll.length h5, List.length_map]
      exact (hs.tab.2 _ (List.getElem_mem l0)).1
    have hat : atI vs (0 : Int) = some (.ref b) := atI_nat (j := 0) e3
    have hfl := hs.fl
    walk_at "st"
    rw [hlen2]
    refine ⟨hfl, hl, fun H2 s2 => ?_⟩
    have h12 := TK.seqT (Same.tk s2) h1
    have hw2 := Tp.mono (Same.tk s2) _ _ hw1
    walk_at "st"
    have st := hs.st
    refine ⟨hs.wk, hs.hd, ⟨st.1, by omega⟩, fun H3 s3 => ?_⟩
    walk_at "st"
    exact q H3 (Same.trans s1 (Same.trans s2 s3))
end

/-! ### copies of the painted squares -/
def spCopied : Sp := fun vs H Q _ => ∃ (D : Addr) (m : CM), vs = [.ref D] ∧ H D = some (.dT (cellK m)) ∧ (m.map (·.1)).Nodup ∧ m.length ≤ 3000 ∧ ∀ D' H', H D' = none → H' D' = some (.dT (cellK m)) → Same H H' → Q (.ref D') H'
section
variable {P : Program} {w : World} {K : PySem.W.Frag} {mg : Str → Option Value} {base : Heap}
theorem ok_u_copied (T : Txt K mg) (D : DefAt K mg "_copied" s_u_copied ["painted"]) : Cal P w K mg base CX0 "_copied" 1 ["painted"] spCopied := by
  refine D.cal sc_u_copied (fun vs H Q E h => ?_) (fun f cdv A outer s H vs Q E hr h => ?_)
  · obtain ⟨D, m, rfl, _⟩ := h
    rfl
  · obtain ⟨D, m, rfl, hD, nd, hl, q⟩ := h
    refine ⟨_, (pss_one (ps_ret (pe_lock (pe_dcT (own := [("place", 1)]) (g := gName 1) rfl hr.units0 sc_u_copied.nd (pi_keys (pv 0)) (blkOk_by (by rfl)) (fun _ _ _ _ _ => (pg_name (i := 1) sc_u_copied.nd rfl (Or.inl rfl))) (fun _ _ _ _ _ => (pv 1)) (fun _ _ _ _ _ => (pe_dget (hu_of hr) (pv 0) (pv 1) (fun _ _ => rfl))))))), ?_⟩
    walk_at "st"
    intro od
    have fD : (upd H D (.frz od (.dT (cellK m)))) D = some (.frz od (.dT (cellK m))) := upd_same
    generalize hHf : upd H D (.frz od (.dT (cellK m))) = Hf at fD
    refine ⟨_, rfl, D, od, rfl, .inr ⟨cellK m, fD, ?_⟩⟩
    intro L nL
    have nLD : L ≠ D := fun z => by
      rw [z, fD] at nL
      cases nL
    refine dcT_it (walk_keysT (d := D) (o := od) (kvs := cellK m)) (fun i H' => Ok (Same Hf H' ∧ H' L = some (.dT (cellK (m.take i))))) ⟨Same.new nL, upd_same⟩ (fun i H' _ ⟨sm, _⟩ => sm _ _ fD) ?_ ?_
    · rintro i x H' H2 hi ⟨sm, hL⟩ ⟨rfl, k, v, qa, hk, rfl, hq⟩
      have hi : i < m.length := by rw [cell_len] at hi; exact hi
      have e0 : (cellK m)[i]? = some (ptK m[i].1, V.int m[i].2) := by
        unfold cellK
        rw [List.getElem?_map, List.getElem?_eq_getElem hi]
        rfl
      rw [e0] at hk
      obtain ⟨rfl, rfl⟩ := Prod.mk.inj (Option.some.inj hk)
      have hD2 := sm _ _ fD
      have lk : look m m[i].1 = some m[i].2 := mem_look nd (List.getElem_mem hi)
      have tk1 := take_more (List.getElem?_eq_getElem hi)
      have nd1 : ((m.take i).map (·.1)).Nodup := nd.sublist ((List.take_sublist _ _).map _)
      have nin : m[i].1 ∉ (m.take i).map (·.1) := fun z => by
        have nd2 : ((m.take (i + 1)).map (·.1)).Nodup := nd.sublist ((List.take_sublist _ _).map _)
        rw [tk1, List.map_append, List.nodup_append] at nd2
        exact nd2.2.2 _ z _ List.mem_cons_self rfl
      have hsz : (cellK (m.take i)).length < sizeLine := by
        rw [cell_len, List.length_take]
        exact small3k (by omega)
      generalize he : m[i] = e at *
      have hq : H2 qa = some (.tup [.int e.1.1, .int e.1.2]) := hq
      have hg : DGet H2 D (.ref qa) (some (.int e.2)) := .inr ⟨cellK m, ptK e.1, qa, .inr ⟨od, hD2⟩, rfl, hq, by rw [cell_val, lk]; rfl⟩
      walk_at "st"
      refine ⟨Same.fresh sm nL, ?_⟩
      rw [upd_same, cellK_snoc nd1 nin, tk1]
    · rintro H' ⟨sm, hL⟩
      rw [cell_len, List.take_length] at hL
      have hD2 := sm _ _ fD
      refine ⟨hD2, ?_⟩
      have sB : Same H (upd H' D (.dT (cellK m))) := fun b o hb => by
        by_cases z : b = D
        · rw [z, hD] at hb
          rw [z, upd_same, hb]
        · rw [upd_ne z]
          refine sm _ _ ?_
          rw [← hHf, upd_ne z]
          exact hb
      have nL0 : H L = none := by
        rw [← hHf, upd_ne nLD] at nL
        exact nL
      exact q L _ nL0 (by rw [upd_ne nLD]; exact hL) sB
end
/-! ### papers -/
inductive PK | stops | round | street
  deriving DecidableEq
def PK.nm : PK → Str
  | .stops => "stops"
  | .round => "round"
  | .street => "street"
/-- the kind, the first step, the period (0 for a stop) -/
abbrev Pap := PK × Nat × Nat
def papD (p : Pap) : PyData := match p.1 with
  | .stops => .tuple [.str "stops", .int (p.2.1 : Int)]
  | k => .tuple [.str k.nm, .int (p.2.1 : Int), .int (p.2.2 : Int)]
structure PapOk (p : Pap) : Prop where
  f : p.2.1 ≤ 100000
  st : p.1 = .stops → p.2.2 = 0
  p1 : p.1 ≠ .stops → 1 ≤ p.2.2
  p2 : p.2.2 ≤ 2000
/-! ### a course -/
abbrev crsF (kd : V) (f p : Int) (a D0 : Addr) (sv : V) (D1 L2 : Addr) (ev : V) (L3 : Addr) (mv : V) : List (Str × V) := [("kind", kd), ("first", .int f), ("period", .int p), ("stroll", .ref a), ("at_first", .ref D0), ("start", sv), ("ahead", .ref D1), ("loop", .ref L2), ("end", ev), ("steps", .ref L3), ("move", mv)]
/-- a course at c: of the stand z0, a lead of i steps, a round of j -/
structure CrsAt (K : PySem.W.Frag) (CC CS : Addr) (H : Hp) (c a D : Addr) (T : List (List Ent)) (p : Pap) (m0 m1 m2 : CM) (w0 w1 w2 : Wk) (i j : Nat) : Prop where
  ob : ∃ dx D0 D1 L2 L3 sv ev mv us2 us3, H c = some (.ins CC dx (crsF (.str p.1.nm) p.2.1 p.2.2 a D0 sv D1 L2 ev L3 mv)) ∧ Tp K H sv (wkD w1) ∧ Tp K H ev (wkD w2) ∧ Tp K H mv (.tuple [.int (w2.1 - w1.1), .int (w2.2.1 - w1.2.1)]) ∧
    H D0 = some (.dT (cellK m0)) ∧ H D1 = some (.dT (cellK m1)) ∧ H L2 = some (.lst us2) ∧ TpAll K H us2 (toldL T (col m1, w1) j) ∧ us2.length = j ∧ H L3 = some (.lst us3) ∧ TpAll K H us3 (toldL T (col m0, w0) i ++ toldL T (col m1, w1) j) ∧ us3.length = i + j
  str : StrAt K CS H a D T m2 w2
  e1 : Ends T (col m0, w0) p.2.1 i (col m1, w1)
  e2 : Ends T (col m1, w1) p.2.2 j (col m2, w2)
  nd0 : (m0.map (·.1)).Nodup
  nd1 : (m1.map (·.1)).Nodup
  nz0 : ∀ e ∈ m0, e.2 ≠ 0
  nz1 : ∀ e ∈ m1, e.2 ≠ 0

/-! ### the course is made -/
structure ClsC (K : PySem.W.Frag) (mg : Str → Option Value) (C : Addr) : Prop where
  cl : Cls K C
  n1 : NoAttr K C "kind"
  n2 : NoAttr K C "first"
  n3 : NoAttr K C "period"
  n4 : NoAttr K C "stroll"
  n5 : NoAttr K C "at_first"
  n6 : NoAttr K C "start"
  n7 : NoAttr K C "ahead"
  n8 : NoAttr K C "loop"
  n9 : NoAttr K C "end"
  n10 : NoAttr K C "steps"
  n11 : NoAttr K C "move"
  mgC : mg "Course" = some (.ref C)
theorem lt_putF {f : Str} {v : V} {n : Nat} : ∀ {fs : List (Str × V)}, fs.length < n → (putF f v fs).length < n + 1
  | [], h => by
    show 1 < n + 1
    have : 0 < n := h
    omega
  | p :: r, h => by
    unfold putF
    by_cases e : p.1 = f
    · rw [if_pos e]
      show r.length + 1 < n + 1
      have : r.length + 1 < n := h
      omega
    · rw [if_neg e]
      show (putF f v r).length + 1 < n + 1
      obtain ⟨m, rfl⟩ : ∃ m, n = m + 1 := ⟨n - 1, by have : r.length + 1 < n := h; omega⟩
      have h : r.length + 1 < m + 1 := h
      have := lt_putF (f := f) (v := v) (n := m) (fs := r) (by omega)
      omega
theorem putF_app {f : Str} {v : V} {fs : List (Str × V)} (h : (fs.map (·.1)).all (fun x => !(x == f)) = true) : putF f v fs = fs ++ [(f, v)] := putF_end fun p hp e => by
  have z := List.all_eq_true.mp h p.1 (List.mem_map.mpr ⟨p, hp, rfl⟩)
  rw [e] at z
  simp at z
theorem papI {K : PySem.W.Frag} {H : Hp} {v : V} {p : Pap} (h : Tp K H v (papD p)) (ok : PapOk p) : ∃ pa, v = .ref pa ∧ ((p.1 = .stops ∧ p.2.2 = 0 ∧ SqT K H pa [.str p.1.nm, .int p.2.1]) ∨ (p.1 ≠ .stops ∧ SqT K H pa [.str p.1.nm, .int p.2.1, .int p.2.2])) := by
  obtain ⟨k, f, n⟩ := p
  cases k with
  | stops =>
    obtain ⟨a, xs, rfl, hs, h⟩ := (show Tp K H v (.tuple [.str "stops", .int (f : Int)]) from h).tupI
    obtain ⟨x, xs, rfl, h1, h⟩ := h.consI
    obtain ⟨y, xs, rfl, h2, h⟩ := h.consI
    obtain rfl := h.nilI
    cases h1
    obtain rfl := h2.intI
    exact ⟨a, rfl, .inl ⟨rfl, ok.st rfl, hs⟩⟩
  | round =>
    obtain ⟨a, xs, rfl, hs, h⟩ := (show Tp K H v (.tuple [.str "round", .int (f : Int), .int (n : Int)]) from h).tupI
    obtain ⟨x, xs, rfl, h1, h⟩ := h.consI
    obtain ⟨y, xs, rfl, h2, h⟩ := h.consI
    obtain ⟨z, xs, rfl, h3, h⟩ := h.consI
    obtain rfl := h.nilI
    cases h1
    obtain rfl := h2.intI
    obtain rfl := h3.intI
    exact ⟨a, rfl, .inr ⟨(by intro z; cases z), hs⟩⟩
  | street =>
    obtain ⟨a, xs, rfl, hs, h⟩ := (show Tp K H v (.tuple [.str "street", .int (f : Int), .int (n : Int)]) from h).tupI
    obtain ⟨x, xs, rfl, h1, h⟩ := h.consI
    obtain ⟨y, xs, rfl, h2, h⟩ := h.consI
    obtain ⟨z, xs, rfl, h3, h⟩ := h.consI
    obtain rfl := h.nilI
    cases h1
    obtain rfl := h2.intI
    obtain rfl := h3.intI
    exact ⟨a, rfl, .inr ⟨(by intro z; cases z), hs⟩⟩
section
variable {K : PySem.W.Frag} {H : Hp} {c pa : Addr} {xs : List V} {o o1 o2 o3 : HO}
theorem tkU {H : Hp} {c : Addr} (s : Soft H c) {H' : Hp} (k : KeepE [c] H H') : TK H H' := k.tk fun b hb => by
  rw [List.mem_singleton.mp hb]
  exact s
theorem sqU1 (h : SqT K H pa xs) (s : Soft H c) : SqT K (upd H c o) pa xs := (tkU s (KeepE.put List.mem_cons_self)).seqT h
theorem sqU2 (h : SqT K H pa xs) (s : Soft H c) : SqT K (upd (upd H c o) c o1) pa xs := (tkU s ((KeepE.put List.mem_cons_self).trans (KeepE.put List.mem_cons_self))).seqT h
theorem sqU3 (h : SqT K H pa xs) (s : Soft H c) : SqT K (upd (upd (upd H c o) c o1) c o2) pa xs := (tkU s (((KeepE.put List.mem_cons_self).trans (KeepE.put List.mem_cons_self)).trans (KeepE.put List.mem_cons_self))).seqT h
end
/-- the heap with the first four fields -/
def hp4 (H : Hp) (c C dx : Addr) (kv : V) (f x : Int) (a : Addr) : Hp := upd (upd (upd (upd H c (.ins C dx (putF "kind" kv []))) c (.ins C dx (putF "first" (.int f) (putF "kind" kv [])))) c (.ins C dx (putF "period" (.int x) (putF "first" (.int f) (putF "kind" kv []))))) c (.ins C dx (putF "stroll" (.ref a) (putF "period" (.int x) (putF "first" (.int f) (putF "kind" kv [])))))
theorem putF_to {f : Str} {v : V} {fs gs : List (Str × V)} (ns : List Str) (e0 : fs.map (·.1) = ns) (h : ns.all (fun x => !(x == f)) = true) (e : fs ++ [(f, v)] = gs) : putF f v fs = gs := by
  rw [← e]
  exact putF_app (by rw [e0]; exact h)
theorem hp4_c {H : Hp} {c C dx a : Addr} {kv : V} {f x : Int} : hp4 H c C dx kv f x a c = some (.ins C dx [("kind", kv), ("first", .int f), ("period", .int x), ("stroll", .ref a)]) := by
  have e1 : putF "kind" kv [] = [(("kind" : Str), kv)] := rfl
  have e2 : putF "first" (.int f) [(("kind" : Str), kv)] = [(("kind" : Str), kv), ("first", V.int f)] := putF_to ["kind"] rfl (by decide +kernel) rfl
  have e3 : putF "period" (.int x) [(("kind" : Str), kv), ("first", V.int f)] = [(("kind" : Str), kv), ("first", V.int f), ("period", V.int x)] := putF_to ["kind", "first"] rfl (by decide +kernel) rfl
  have e4 : putF "stroll" (.ref a) [(("kind" : Str), kv), ("first", V.int f), ("period", V.int x)] = [(("kind" : Str), kv), ("first", V.int f), ("period", V.int x), ("stroll", .ref a)] := putF_to ["kind", "first", "period"] rfl (by decide +kernel) rfl
  unfold hp4
  rw [upd_same, e1, e2, e3, e4]
theorem hp4_k {H : Hp} {c C dx a : Addr} {kv : V} {f x : Int} : KeepE [c] H (hp4 H c C dx kv f x a) := (((KeepE.put List.mem_cons_self).trans (KeepE.put List.mem_cons_self)).trans (KeepE.put List.mem_cons_self)).trans (KeepE.put List.mem_cons_self)
def spCrs (K : PySem.W.Frag) (CC CS : Addr) : Sp := fun vs H Q _ => ∃ (c dx a D : Addr) (pv : V) (T : List (List Ent)) (p : Pap) (m0 : CM) (w0 : Wk) (cc n : Nat) (B : Int), vs = [.ref c, .ref a, pv] ∧ H c = some (.ins CC dx []) ∧ Tp K H pv (papD p) ∧ PapOk p ∧ StrAt K CS H a D T m0 w0 ∧ TabOk cc n T ∧ Fit cc n B (col m0, w0) ∧ m0.length + p.2.1 + p.2.2 ≤ 3000 ∧
  ∀ (m1 m2 : CM) (w1 w2 : Wk) (i j : Nat) (H' : Hp), CrsAt K CC CS H' c a D T p m0 m1 m2 w0 w1 w2 i j → m1.length ≤ m0.length + i → KeepE [c, a, D] H H' → Q .non H'
section
variable {P : Program} {w : World} {K : PySem.W.Frag} {mg : Str → Option Value} {base : Heap}
local macro_rules | `(tactic| walk_at "cl") => `(tactic| first | ((repeat refine lt_putF ?_); exact Nat.le_of_ble_eq_true rfl) | (refine le_only ?_; omega) | (refine lt_only ?_; omega) | assumption)
local macro_rules | `(tactic| walk_at "cl") => `(tactic| first | exact sqU1 (by assumption) (by assumption) | exact sqU2 (by assumption) (by assumption) | exact sqU3 (by assumption) (by assumption))
theorem ok_Course_init (T : Txt K mg) {CC CS : Addr} (SS : ClsS K mg CS) (S : ClsC K mg CC) (MG : MCal P w K mg base CS "go" 3 ["self", "many"] (spGo2 K CS)) (M : MetAt K CC "__init__" "Course.__init__" s_Course_init ["self", "stroll", "paper"]) (C_copied : Cal P w K mg base CX0 "_copied" 1 ["painted"] spCopied) : MCal P w K mg base CC "__init__" 4 ["self", "stroll", "paper"] (spCrs K CC CS) := by
  obtain ⟨f, fd, me, F, b⟩ := M.meth
  refine ⟨f, fd, me, F.ok sc_Course_init (fun vs H Q E h => ?_) (fun cdv A outer s H vs Q E hr h => ?_), b⟩
  · obtain ⟨c, dx, a, D, pv, T, p, m0, w0, cc, n, B, rfl, _⟩ := h
    rfl
  · obtain ⟨c, dx, a, D, ppv, Tb, p, m0, w0, cc, n, B, rfl, hc, hp, pok, hS, ok, fit, hlen, q⟩ := h
    refine ⟨_, (pss_cons (k_sfld (K := K) (pv 0) (pe_ix (k_ix_tup (K := K)) (pv 2) pe_int (fun _ _ => rfl)) (by rfl))
      (pss_cons (k_sfld (K := K) (pv 0) (pe_ix (k_ix_tup (K := K)) (pv 2) pe_int (fun _ _ => rfl)) (by rfl))
      (pss_cons (k_sfld (K := K) (pv 0) (pe_ifExp (pt_cmpR op_eq (pe_callB (k_len_t (K := K)) (by rfl) T.m_len (by decide +kernel) (pa_cons (pv 2) pa_nil)) pe_int (nomark _)) (pe_ix (k_ix_tup (K := K)) (pv 2) pe_int (fun _ _ => rfl)) pe_int) (by rfl))
      (pss_cons (k_sfld (K := K) (pv 0) (pv 1) (by rfl))
      (pss_cons (k_sfld (K := K) (pv 0) (pe_own C_copied hr (by first | decide | omega) (pa_cons (k_fld (K := K) (pv 1) (by rfl)) pa_nil)) (by rfl))
      (pss_cons (ps_set (i := 3) sc_Course_init.nd rfl (Or.inl rfl) (pe_ownM MG SS.cl hr (by decide) (pv 1) (pa_cons (k_fld (K := K) (pv 0) (by rfl)) pa_nil)))
      (pss_cons (k_sfld (K := K) (pv 0) (k_fld (K := K) (pv 1) (by rfl)) (by rfl))
      (pss_cons (k_sfld (K := K) (pv 0) (pe_own C_copied hr (by first | decide | omega) (pa_cons (k_fld (K := K) (pv 1) (by rfl)) pa_nil)) (by rfl))
      (pss_cons (k_sfld (K := K) (pv 0) (pe_ownM MG SS.cl hr (by decide) (pv 1) (pa_cons (k_fld (K := K) (pv 0) (by rfl)) pa_nil)) (by rfl))
      (pss_cons (k_sfld (K := K) (pv 0) (k_fld (K := K) (pv 1) (by rfl)) (by rfl))
      (pss_cons (k_sfld (K := K) (pv 0) (pe_op op_cat (pv 3) (k_fld (K := K) (pv 0) (by rfl))) (by rfl))
      (pss_one (k_sfld (K := K) (pv 0) (pe_tup (pa_cons (pe_op op_sub (pe_ix (k_ix_tup (K := K)) (k_fld (K := K) (pv 0) (by rfl)) pe_int (fun _ _ => rfl)) (pe_ix (k_ix_tup (K := K)) (k_fld (K := K) (pv 0) (by rfl)) pe_int (fun _ _ => rfl))) (pa_cons (pe_op op_sub (pe_ix (k_ix_tup (K := K)) (k_fld (K := K) (pv 0) (by rfl)) pe_int (fun _ _ => rfl)) (pe_ix (k_ix_tup (K := K)) (k_fld (K := K) (pv 0) (by rfl)) pe_int (fun _ _ => rfl))) pa_nil))) (by rfl)))))))))))))), ?_⟩
    have cl := S.cl
    have cs := SS.cl
    have n1 := S.n1
    have n2 := S.n2
    have n3 := S.n3
    have n4 := S.n4
    have n5 := S.n5
    have n6 := S.n6
    have n7 := S.n7
    have n8 := S.n8
    have n9 := S.n9
    have n10 := S.n10
    have n11 := S.n11
    have nP := SS.nP
    have nW := SS.nW
    have nca : c ≠ a := fun z => by
      obtain ⟨dx2, tv, gv, wv, e, _⟩ := hS.ob
      rw [z, e] at hc
      cases hc
    have ncD : c ≠ D := fun z => by
      rw [z, hS.dc] at hc
      cases hc
    have sc : Soft H c := Soft.ins hc
    obtain ⟨pa, rfl, hpc⟩ := papI hp pok
    have hX : (if p.1 = .stops then (0 : Int) else (p.2.2 : Int)) = p.2.2 := by
      split
      · rw [pok.st ‹_›]
        rfl
      · rfl
    rcases hpc with ⟨hk, h0, hpa⟩ | ⟨hk, hpa⟩
    all_goals
      obtain ⟨H1, hH1⟩ : ∃ H1, H1 = hp4 H c CC dx (.str p.1.nm) p.2.1 (if p.1 = .stops then (0 : Int) else (p.2.2 : Int)) a := ⟨_, rfl⟩
      have h1c : H1 c = some (.ins CC dx [("kind", .str p.1.nm), ("first", .int p.2.1), ("period", .int p.2.2), ("stroll", .ref a)]) := by rw [hH1, hp4_c, hX]
      have k1 : KeepE [c] H H1 := by rw [hH1]; exact hp4_k
      have t1 : TK H H1 := tkU sc k1
      first | rw [if_pos hk] at hH1 | rw [if_neg hk] at hH1
      unfold hp4 at hH1
      have hS1 : StrAt K CS H1 a D Tb m0 w0 := by
        obtain ⟨dx2, tv, gv, wv, e, _⟩ := id hS.ob
        exact hS.mv t1 ((k1 _ _ (fun z => nca (List.mem_singleton.mp z).symm) e).trans e.symm) ((k1 _ _ (fun z => ncD (List.mem_singleton.mp z).symm) hS.dc).trans hS.dc.symm)
      obtain ⟨⟨dx1, tv1, gv1, wv1, ea1, _, hw1, _⟩, hD1, nd1, nz1⟩ := id hS1
      have fP1 := lkP tv1 gv1 D wv1
      have lm : m0.length ≤ 3000 := by omega
      have ea1' := ea1
      have hD1' := hD1
      rw [hH1] at ea1' hD1'
      walk_at "st"
      rw [← hH1]
      intro D0 H2 nD0 hD0 s2
      have h2c := s2 _ _ h1c
      have nc0 : D0 ≠ c := (ne_of_none h1c nD0).symm
      obtain ⟨H3, hH3⟩ : ∃ H3, H3 = upd H2 c (.ins CC dx (putF "at_first" (.ref D0) [("kind", .str p.1.nm), ("first", .int p.2.1), ("period", .int p.2.2), ("stroll", .ref a)])) := ⟨_, rfl⟩
      have h3c : H3 c = some (.ins CC dx [("kind", .str p.1.nm), ("first", .int p.2.1), ("period", .int p.2.2), ("stroll", .ref a), ("at_first", .ref D0)]) := by rw [hH3, upd_same, putF_to ["kind", "first", "period", "stroll"] rfl (by decide +kernel) rfl]; rfl
      have k3 : KeepE [c] H2 H3 := by rw [hH3]; exact KeepE.put List.mem_cons_self
      have t3 : TK H1 H3 := (Same.tk s2).trans (tkU (Soft.ins h2c) k3)
      have hS3 : StrAt K CS H3 a D Tb m0 w0 := (hS1.same s2).mv (tkU (Soft.ins h2c) k3) ((k3 _ _ (fun z => nca (List.mem_singleton.mp z).symm) (s2 _ _ ea1)).trans (s2 _ _ ea1).symm) ((k3 _ _ (fun z => ncD (List.mem_singleton.mp z).symm) (s2 _ _ hD1)).trans (s2 _ _ hD1).symm)
      have hD03 : H3 D0 = some (.dT (cellK m0)) := k3 _ _ (fun z => nc0 (List.mem_singleton.mp z)) hD0
      have ha3 : H3 a = some (.ins CS dx1 (strF tv1 gv1 D wv1)) := k3 _ _ (fun z => nca (List.mem_singleton.mp z).symm) (s2 _ _ ea1)
      have noM3 : (strF tv1 gv1 D wv1).lookup ("go" : Str) = none := lkNo _ _ _ _ (by decide +kernel)
      have f3 : ([("kind", .str p.1.nm), ("first", .int p.2.1), ("period", .int p.2.2), ("stroll", .ref a), ("at_first", .ref D0)] : List (Str × V)).lookup ("first" : Str) = some (.int p.2.1) := by simp only [List.lookup_cons, beq_self_eq_true, show (("first" : Str) == "kind") = false by decide +kernel]
      have ha3' := ha3
      have h3c' := h3c
      have hS3' := hS3
      rw [hH3] at ha3' h3c' hS3'
      walk_at "st"
      rw [← hH3]
      intro L1 us1 i m1 w1 H4 nL1 he1 hS4 hml1 hL1 hvl1 k4 htl1
      have ncaD : c ∉ [a, D] := fun z => by
        rcases List.mem_cons.mp z with z | z
        · exact nca z
        · exact ncD (List.mem_singleton.mp z)
      have h4c := k4 _ _ ncaD h3c
      have nD0a : D0 ≠ a := ne_of hD03 ha3 (by intro z; cases z)
      have nD0D : D0 ≠ D := (ne_of_none hD1 nD0).symm
      have n0aD : D0 ∉ [a, D] := fun z => by
        rcases List.mem_cons.mp z with z | z
        · exact nD0a z
        · exact nD0D (List.mem_singleton.mp z)
      have hD04 := k4 _ _ n0aD hD03
      have nL1c : L1 ≠ c := (ne_of_none h3c nL1).symm
      obtain ⟨⟨dx4, tv4, gv4, wv4, ea4, _, hw4, _⟩, hD4, nd4, nz4⟩ := id hS4
      have fW4 := lkW tv4 gv4 D wv4
      have fP4 := lkP tv4 gv4 D wv4
      obtain ⟨H5, hH5⟩ : ∃ H5, H5 = upd H4 c (.ins CC dx (putF "start" wv4 [("kind", .str p.1.nm), ("first", .int p.2.1), ("period", .int p.2.2), ("stroll", .ref a), ("at_first", .ref D0)])) := ⟨_, rfl⟩
      have h5c : H5 c = some (.ins CC dx [("kind", .str p.1.nm), ("first", .int p.2.1), ("period", .int p.2.2), ("stroll", .ref a), ("at_first", .ref D0), ("start", wv4)]) := by rw [hH5, upd_same, putF_to ["kind", "first", "period", "stroll", "at_first"] rfl (by decide +kernel) rfl]; rfl
      have k5 : KeepE [c] H4 H5 := by rw [hH5]; exact KeepE.put List.mem_cons_self
      have t5 : TK H4 H5 := tkU (Soft.ins h4c) k5
      have nac : a ∉ [c] := fun z => nca (List.mem_singleton.mp z).symm
      have nDc : D ∉ [c] := fun z => ncD (List.mem_singleton.mp z).symm
      have n0c : D0 ∉ [c] := fun z => nc0 (List.mem_singleton.mp z)
      have nLc : L1 ∉ [c] := fun z => nL1c (List.mem_singleton.mp z)
      have ea5 := k5 _ _ nac ea4
      have hD5 := k5 _ _ nDc hD4
      have hS5 := hS4.mv t5 (ea5.trans ea4.symm) (hD5.trans hD4.symm)
      have hD05 := k5 _ _ n0c hD04
      have hL15 := k5 _ _ nLc hL1
      have le1 : i ≤ p.2.1 := by have := he1.le; omega
      have lm1 : m1.length ≤ 3000 := by omega
      have ea5' := ea5
      have hD5' := hD5
      rw [hH5] at ea5' hD5'
      walk_at "st"
      rw [← hH5]
      intro D1 H6 nD1 hD16 s6
      have h6c := s6 _ _ h5c
      have nc1 : D1 ≠ c := (ne_of_none h5c nD1).symm
      obtain ⟨H7, hH7⟩ : ∃ H7, H7 = upd H6 c (.ins CC dx (putF "ahead" (.ref D1) [("kind", .str p.1.nm), ("first", .int p.2.1), ("period", .int p.2.2), ("stroll", .ref a), ("at_first", .ref D0), ("start", wv4)])) := ⟨_, rfl⟩
      have h7c : H7 c = some (.ins CC dx [("kind", .str p.1.nm), ("first", .int p.2.1), ("period", .int p.2.2), ("stroll", .ref a), ("at_first", .ref D0), ("start", wv4), ("ahead", .ref D1)]) := by rw [hH7, upd_same, putF_to ["kind", "first", "period", "stroll", "at_first", "start"] rfl (by decide +kernel) rfl]; rfl
      have k7 : KeepE [c] H6 H7 := by rw [hH7]; exact KeepE.put List.mem_cons_self
      have t7 : TK H6 H7 := tkU (Soft.ins h6c) k7
      have ea7 := k7 _ _ nac (s6 _ _ ea5)
      have hD7 := k7 _ _ nDc (s6 _ _ hD5)
      have hS7 := (hS5.same s6).mv t7 (ea7.trans (s6 _ _ ea5).symm) (hD7.trans (s6 _ _ hD5).symm)
      have hD07 := k7 _ _ n0c (s6 _ _ hD05)
      have hL17 := k7 _ _ nLc (s6 _ _ hL15)
      have hD17 := k7 _ _ (fun z => nc1 (List.mem_singleton.mp z)) hD16
      have noM7 : (strF tv4 gv4 D wv4).lookup ("go" : Str) = none := lkNo _ _ _ _ (by decide +kernel)
      have f7 : ([("kind", .str p.1.nm), ("first", .int p.2.1), ("period", .int p.2.2), ("stroll", .ref a), ("at_first", .ref D0), ("start", wv4), ("ahead", .ref D1)] : List (Str × V)).lookup ("period" : Str) = some (.int p.2.2) := by simp only [List.lookup_cons, beq_self_eq_true, show (("period" : Str) == "kind") = false by decide +kernel, show (("period" : Str) == "first") = false by decide +kernel]
      have fit1 := fit.run ok he1.run
      have lm2 : (m1.length : Int) + (p.2.2 : Int) ≤ 3000 := by omega
      have ea7' := ea7
      have h7c' := h7c
      have hS7' := hS7
      rw [hH7] at ea7' h7c' hS7'
      walk_at "st"
      rw [← hH7]
      intro L2 us2 j m2 w2 H8 nL2 he2 hS8 hml2 hL2 hvl2 k8 htl2
      have h8c := k8 _ _ ncaD h7c
      have n1a : D1 ≠ a := ne_of hD17 ea7 (by intro z; cases z)
      have n1D : D1 ≠ D := (ne_of_none hD5 nD1).symm
      have n1aD : D1 ∉ [a, D] := fun z => by
        rcases List.mem_cons.mp z with z | z
        · exact n1a z
        · exact n1D (List.mem_singleton.mp z)
      have nLaD : L1 ∉ [a, D] := fun z => by
        rcases List.mem_cons.mp z with z | z
        · exact ne_of hL17 ea7 (by intro z; cases z) z
        · exact ne_of hL17 hD7 (by intro z; cases z) (List.mem_singleton.mp z)
      have hD08 := k8 _ _ n0aD hD07
      have hD18 := k8 _ _ n1aD hD17
      have hL18 := k8 _ _ nLaD hL17
      have nL2c : L2 ≠ c := (ne_of_none h7c nL2).symm
      have nL2c' : L2 ∉ [c] := fun z => nL2c (List.mem_singleton.mp z)
      obtain ⟨⟨dx8, tv8, gv8, wv8, ea8, _, hw8, _⟩, hD8, nd8, nz8⟩ := id hS8
      have fW8 := lkW tv8 gv8 D wv8
      obtain ⟨H9, hH9⟩ : ∃ H9, H9 = upd H8 c (.ins CC dx (putF "loop" (.ref L2) [("kind", .str p.1.nm), ("first", .int p.2.1), ("period", .int p.2.2), ("stroll", .ref a), ("at_first", .ref D0), ("start", wv4), ("ahead", .ref D1)])) := ⟨_, rfl⟩
      have h9c : H9 c = some (.ins CC dx [("kind", .str p.1.nm), ("first", .int p.2.1), ("period", .int p.2.2), ("stroll", .ref a), ("at_first", .ref D0), ("start", wv4), ("ahead", .ref D1), ("loop", .ref L2)]) := by rw [hH9, upd_same, putF_to ["kind", "first", "period", "stroll", "at_first", "start", "ahead"] rfl (by decide +kernel) rfl]; rfl
      have k9 : KeepE [c] H8 H9 := by rw [hH9]; exact KeepE.put List.mem_cons_self
      have ea9 := k9 _ _ nac ea8
      obtain ⟨H10, hH10⟩ : ∃ H10, H10 = upd H9 c (.ins CC dx (putF "end" wv8 [("kind", .str p.1.nm), ("first", .int p.2.1), ("period", .int p.2.2), ("stroll", .ref a), ("at_first", .ref D0), ("start", wv4), ("ahead", .ref D1), ("loop", .ref L2)])) := ⟨_, rfl⟩
      have h10c : H10 c = some (.ins CC dx [("kind", .str p.1.nm), ("first", .int p.2.1), ("period", .int p.2.2), ("stroll", .ref a), ("at_first", .ref D0), ("start", wv4), ("ahead", .ref D1), ("loop", .ref L2), ("end", wv8)]) := by rw [hH10, upd_same, putF_to ["kind", "first", "period", "stroll", "at_first", "start", "ahead", "loop"] rfl (by decide +kernel) rfl]; rfl
      have k10 : KeepE [c] H8 H10 := k9.trans (by rw [hH10]; exact KeepE.put List.mem_cons_self)
      have t10 : TK H8 H10 := tkU (Soft.ins h8c) k10
      have f10 : ([("kind", .str p.1.nm), ("first", .int p.2.1), ("period", .int p.2.2), ("stroll", .ref a), ("at_first", .ref D0), ("start", wv4), ("ahead", .ref D1), ("loop", .ref L2), ("end", wv8)] : List (Str × V)).lookup ("loop" : Str) = some (.ref L2) := by simp only [List.lookup_cons, beq_self_eq_true, show (("loop" : Str) == "kind") = false by decide +kernel, show (("loop" : Str) == "first") = false by decide +kernel, show (("loop" : Str) == "period") = false by decide +kernel, show (("loop" : Str) == "stroll") = false by decide +kernel, show (("loop" : Str) == "at_first") = false by decide +kernel, show (("loop" : Str) == "start") = false by decide +kernel, show (("loop" : Str) == "ahead") = false by decide +kernel]
      have hL110 := k10 _ _ nLc hL18
      have hL210 := k10 _ _ nL2c' hL2
      have le2 : j ≤ p.2.2 := by have := he2.le; omega
      have lus : us1.length + us2.length ≤ sizeLine := Nat.le_of_lt (small3k (by omega))
      have ea9' := ea9
      have h9c' := h9c
      rw [hH9] at ea9' h9c'
      have h10c' := h10c
      have hL110' := hL110
      have hL210' := hL210
      rw [hH10, hH9] at h10c' hL110' hL210'
      walk_at "st"
      rw [← hH9, ← hH10]
      intro L3 nL3
      obtain ⟨wa8, rfl, hsw8⟩ := hw8.int4
      obtain ⟨wa4, rfl, hsw4⟩ := hw4.int4
      have nL3c : L3 ≠ c := (ne_of_none h10c nL3).symm
      obtain ⟨H11, hH11⟩ : ∃ H11, H11 = upd H10 L3 (.lst (us1 ++ us2)) := ⟨_, rfl⟩
      have s11 : Same H10 H11 := by rw [hH11]; exact Same.new nL3
      have hL311 : H11 L3 = some (.lst (us1 ++ us2)) := by rw [hH11]; exact upd_same
      have h11c := s11 _ _ h10c
      obtain ⟨H12, hH12⟩ : ∃ H12, H12 = upd H11 c (.ins CC dx (putF "steps" (.ref L3) [("kind", .str p.1.nm), ("first", .int p.2.1), ("period", .int p.2.2), ("stroll", .ref a), ("at_first", .ref D0), ("start", .ref wa4), ("ahead", .ref D1), ("loop", .ref L2), ("end", .ref wa8)])) := ⟨_, rfl⟩
      have h12c : H12 c = some (.ins CC dx [("kind", .str p.1.nm), ("first", .int p.2.1), ("period", .int p.2.2), ("stroll", .ref a), ("at_first", .ref D0), ("start", .ref wa4), ("ahead", .ref D1), ("loop", .ref L2), ("end", .ref wa8), ("steps", .ref L3)]) := by rw [hH12, upd_same, putF_to ["kind", "first", "period", "stroll", "at_first", "start", "ahead", "loop", "end"] rfl (by decide +kernel) rfl]; rfl
      have k12 : KeepE [c] H11 H12 := by rw [hH12]; exact KeepE.put List.mem_cons_self
      have t12 : TK H11 H12 := tkU (Soft.ins h11c) k12
      have t8_12 : TK H8 H12 := t10.trans ((Same.tk s11).trans t12)
      have t4_12 : TK H4 H12 := t5.trans ((Same.tk s6).trans (t7.trans ((k8.tk hS7.soft).trans t8_12)))
      have hs8 := t8_12.seqT hsw8
      have hs4 := t4_12.seqT hsw4
      have f12e : ([("kind", .str p.1.nm), ("first", .int p.2.1), ("period", .int p.2.2), ("stroll", .ref a), ("at_first", .ref D0), ("start", .ref wa4), ("ahead", .ref D1), ("loop", .ref L2), ("end", .ref wa8), ("steps", .ref L3)] : List (Str × V)).lookup ("end" : Str) = some (.ref wa8) := by simp only [List.lookup_cons, beq_self_eq_true, show (("end" : Str) == "kind") = false by decide +kernel, show (("end" : Str) == "first") = false by decide +kernel, show (("end" : Str) == "period") = false by decide +kernel, show (("end" : Str) == "stroll") = false by decide +kernel, show (("end" : Str) == "at_first") = false by decide +kernel, show (("end" : Str) == "start") = false by decide +kernel, show (("end" : Str) == "ahead") = false by decide +kernel, show (("end" : Str) == "loop") = false by decide +kernel]
      have f12s : ([("kind", .str p.1.nm), ("first", .int p.2.1), ("period", .int p.2.2), ("stroll", .ref a), ("at_first", .ref D0), ("start", .ref wa4), ("ahead", .ref D1), ("loop", .ref L2), ("end", .ref wa8), ("steps", .ref L3)] : List (Str × V)).lookup ("start" : Str) = some (.ref wa4) := by simp only [List.lookup_cons, beq_self_eq_true, show (("start" : Str) == "kind") = false by decide +kernel, show (("start" : Str) == "first") = false by decide +kernel, show (("start" : Str) == "period") = false by decide +kernel, show (("start" : Str) == "stroll") = false by decide +kernel, show (("start" : Str) == "at_first") = false by decide +kernel]
      have h11c' := h11c
      rw [hH11] at h11c'
      have h12c' := h12c
      have hs8' := hs8
      have hs4' := hs4
      rw [hH12, hH11] at h12c' hs8' hs4'
      walk_at "st"
      rw [← hH11, ← hH12]
      intro pm npm
      obtain ⟨H13, hH13⟩ : ∃ H13, H13 = upd H12 pm (.tup [.int (w2.1 - w1.1), .int (w2.2.1 - w1.2.1)]) := ⟨_, rfl⟩
      have s13 : Same H12 H13 := by rw [hH13]; exact Same.new npm
      have hpm : H13 pm = some (.tup [.int (w2.1 - w1.1), .int (w2.2.1 - w1.2.1)]) := by rw [hH13]; exact upd_same
      have h13c := s13 _ _ h12c
      have h13c' := h13c
      rw [hH13] at h13c'
      walk_at "st"
      rw [← hH13]
      obtain ⟨H14, hH14⟩ : ∃ H14, H14 = upd H13 c (.ins CC dx (putF "move" (.ref pm) [("kind", .str p.1.nm), ("first", .int p.2.1), ("period", .int p.2.2), ("stroll", .ref a), ("at_first", .ref D0), ("start", .ref wa4), ("ahead", .ref D1), ("loop", .ref L2), ("end", .ref wa8), ("steps", .ref L3)])) := ⟨_, rfl⟩
      have h14c : H14 c = some (.ins CC dx [("kind", .str p.1.nm), ("first", .int p.2.1), ("period", .int p.2.2), ("stroll", .ref a), ("at_first", .ref D0), ("start", .ref wa4), ("ahead", .ref D1), ("loop", .ref L2), ("end", .ref wa8), ("steps", .ref L3), ("move", .ref pm)]) := by rw [hH14, upd_same, putF_to ["kind", "first", "period", "stroll", "at_first", "start", "ahead", "loop", "end", "steps"] rfl (by decide +kernel) rfl]; rfl
      have k14 : KeepE [c] H13 H14 := by rw [hH14]; exact KeepE.put List.mem_cons_self
      have t14 : TK H13 H14 := tkU (Soft.ins h13c) k14
      rw [← hH14]
      show Q V.non H14
      have up : ∀ b o, b ∉ [c] → H8 b = some o → H14 b = some o := fun b o n e => k14 _ _ n (s13 _ _ (k12 _ _ n (s11 _ _ (k10 _ _ n e))))
      have t8 : TK H8 H14 := t8_12.trans ((Same.tk s13).trans t14)
      have t4_8 : TK H4 H8 := t5.trans ((Same.tk s6).trans (t7.trans (k8.tk hS7.soft)))
      have hL314 := k14 _ _ (fun z => nL3c (List.mem_singleton.mp z)) (s13 _ _ (k12 _ _ (fun z => nL3c (List.mem_singleton.mp z)) hL311))
      have hpm14 := k14 _ _ (fun z => ne_of_none h12c npm (List.mem_singleton.mp z).symm) hpm
      have m1 : ∀ b ∈ [c], b ∈ [c, a, D] := fun b hb => by
        rw [List.mem_singleton.mp hb]
        exact List.mem_cons_self
      have m2' : ∀ b ∈ [a, D], b ∈ [c, a, D] := fun b hb => List.mem_cons_of_mem _ hb
      refine q _ m2 w1 w2 i j H14 ⟨⟨dx, D0, D1, L2, L3, .ref wa4, .ref wa8, .ref pm, us2, us1 ++ us2, h14c, Tp.mono (t4_8.trans t8) _ _ hw4, Tp.mono t8 _ _ hw8, Tp.of_ints (ks := [_, _]) (SqT.of hpm14), up _ _ n0c hD08, up _ _ (fun z => nc1 (List.mem_singleton.mp z)) hD18, up _ _ nL2c' hL2, TpAll.mono t8 _ _ htl2, hvl2, hL314, TpAll.append (TpAll.mono (t4_8.trans t8) _ _ htl1) (TpAll.mono t8 _ _ htl2), by rw [List.length_append, hvl1, hvl2]⟩, hS8.mv t8 ((up _ _ nac ea8).trans ea8.symm) ((up _ _ nDc hD8).trans hD8.symm), he1, he2, nd1, nd4, nz1, nz4⟩ hml1 ?_
      exact ((k1.mono m1).trans ((Same.keepE s2).trans ((k3.mono m1).trans ((k4.mono m2').trans ((k5.mono m1).trans ((Same.keepE s6).trans ((k7.mono m1).trans ((k8.mono m2').trans ((k10.mono m1).trans ((Same.keepE s11).trans ((k12.mono m1).trans ((Same.keepE s13).trans (k14.mono m1)))))))))))))
end

/-! ### a paper that is no street's holds -/
def spNo : Sp := fun _ _ _ _ => False
/-- a def that is never called -/
theorem DefAt.no {P : Program} {w : World} {K : PySem.W.Frag} {mg : Str → Option Value} {base : Heap} {x : Str} {st : Stmt} {N ps : List Str} (D : DefAt K mg x st ps) (S : FnScope N ps (defScope st)) : Cal P w K mg base CX0 x 1 ps spNo :=
  D.cal (k := 0) S (fun _ _ _ _ h => False.elim h) (fun _ _ _ _ _ _ _ _ _ _ h => False.elim h)
def HoldsNS (T : List (List Ent)) (p : Pap) (z1 z2 : WSt) (i j : Nat) : Prop := i = p.2.1 ∧ j = p.2.2 ∧ match p.1 with
  | .stops => stepW T z2 = none
  | .round => z2 = z1
  | .street => False
/-! ### the fields of a course -/
section
variable {kd sv ev mv : V} {f p : Int} {a D0 D1 L2 L3 : Addr}
theorem clk_kind : (crsF kd f p a D0 sv D1 L2 ev L3 mv).lookup ("kind" : Str) = some (kd) := by simp only [List.lookup_cons, beq_self_eq_true]
theorem clk_first : (crsF kd f p a D0 sv D1 L2 ev L3 mv).lookup ("first" : Str) = some (.int f) := by simp only [List.lookup_cons, beq_self_eq_true, show (("first" : Str) == "kind") = false by decide +kernel]
theorem clk_period : (crsF kd f p a D0 sv D1 L2 ev L3 mv).lookup ("period" : Str) = some (.int p) := by simp only [List.lookup_cons, beq_self_eq_true, show (("period" : Str) == "kind") = false by decide +kernel, show (("period" : Str) == "first") = false by decide +kernel]
theorem clk_stroll : (crsF kd f p a D0 sv D1 L2 ev L3 mv).lookup ("stroll" : Str) = some (.ref a) := by simp only [List.lookup_cons, beq_self_eq_true, show (("stroll" : Str) == "kind") = false by decide +kernel, show (("stroll" : Str) == "first") = false by decide +kernel, show (("stroll" : Str) == "period") = false by decide +kernel]
theorem clk_at_first : (crsF kd f p a D0 sv D1 L2 ev L3 mv).lookup ("at_first" : Str) = some (.ref D0) := by simp only [List.lookup_cons, beq_self_eq_true, show (("at_first" : Str) == "kind") = false by decide +kernel, show (("at_first" : Str) == "first") = false by decide +kernel, show (("at_first" : Str) == "period") = false by decide +kernel, show (("at_first" : Str) == "stroll") = false by decide +kernel]
theorem clk_start : (crsF kd f p a D0 sv D1 L2 ev L3 mv).lookup ("start" : Str) = some (sv) := by simp only [List.lookup_cons, beq_self_eq_true, show (("start" : Str) == "kind") = false by decide +kernel, show (("start" : Str) == "first") = false by decide +kernel, show (("start" : Str) == "period") = false by decide +kernel, show (("start" : Str) == "stroll") = false by decide +kernel, show (("start" : Str) == "at_first") = false by decide +kernel]
theorem clk_ahead : (crsF kd f p a D0 sv D1 L2 ev L3 mv).lookup ("ahead" : Str) = some (.ref D1) := by simp only [List.lookup_cons, beq_self_eq_true, show (("ahead" : Str) == "kind") = false by decide +kernel, show (("ahead" : Str) == "first") = false by decide +kernel, show (("ahead" : Str) == "period") = false by decide +kernel, show (("ahead" : Str) == "stroll") = false by decide +kernel, show (("ahead" : Str) == "at_first") = false by decide +kernel, show (("ahead" : Str) == "start") = false by decide +kernel]
theorem clk_loop : (crsF kd f p a D0 sv D1 L2 ev L3 mv).lookup ("loop" : Str) = some (.ref L2) := by simp only [List.lookup_cons, beq_self_eq_true, show (("loop" : Str) == "kind") = false by decide +kernel, show (("loop" : Str) == "first") = false by decide +kernel, show (("loop" : Str) == "period") = false by decide +kernel, show (("loop" : Str) == "stroll") = false by decide +kernel, show (("loop" : Str) == "at_first") = false by decide +kernel, show (("loop" : Str) == "start") = false by decide +kernel, show (("loop" : Str) == "ahead") = false by decide +kernel]
theorem clk_end : (crsF kd f p a D0 sv D1 L2 ev L3 mv).lookup ("end" : Str) = some (ev) := by simp only [List.lookup_cons, beq_self_eq_true, show (("end" : Str) == "kind") = false by decide +kernel, show (("end" : Str) == "first") = false by decide +kernel, show (("end" : Str) == "period") = false by decide +kernel, show (("end" : Str) == "stroll") = false by decide +kernel, show (("end" : Str) == "at_first") = false by decide +kernel, show (("end" : Str) == "start") = false by decide +kernel, show (("end" : Str) == "ahead") = false by decide +kernel, show (("end" : Str) == "loop") = false by decide +kernel]
theorem clk_steps : (crsF kd f p a D0 sv D1 L2 ev L3 mv).lookup ("steps" : Str) = some (.ref L3) := by simp only [List.lookup_cons, beq_self_eq_true, show (("steps" : Str) == "kind") = false by decide +kernel, show (("steps" : Str) == "first") = false by decide +kernel, show (("steps" : Str) == "period") = false by decide +kernel, show (("steps" : Str) == "stroll") = false by decide +kernel, show (("steps" : Str) == "at_first") = false by decide +kernel, show (("steps" : Str) == "start") = false by decide +kernel, show (("steps" : Str) == "ahead") = false by decide +kernel, show (("steps" : Str) == "loop") = false by decide +kernel, show (("steps" : Str) == "end") = false by decide +kernel]
theorem clk_move : (crsF kd f p a D0 sv D1 L2 ev L3 mv).lookup ("move" : Str) = some (mv) := by simp only [List.lookup_cons, beq_self_eq_true, show (("move" : Str) == "kind") = false by decide +kernel, show (("move" : Str) == "first") = false by decide +kernel, show (("move" : Str) == "period") = false by decide +kernel, show (("move" : Str) == "stroll") = false by decide +kernel, show (("move" : Str) == "at_first") = false by decide +kernel, show (("move" : Str) == "start") = false by decide +kernel, show (("move" : Str) == "ahead") = false by decide +kernel, show (("move" : Str) == "loop") = false by decide +kernel, show (("move" : Str) == "end") = false by decide +kernel, show (("move" : Str) == "steps") = false by decide +kernel]
theorem clk_no {n : Str} (h : (n == "kind" || (n == "first" || (n == "period" || (n == "stroll" || (n == "at_first" || (n == "start" || (n == "ahead" || (n == "loop" || (n == "end" || (n == "steps" || (n == "move"))))))))))) = false) : (crsF kd f p a D0 sv D1 L2 ev L3 mv).lookup n = none := by
  simp only [Bool.or_eq_false_iff] at h
  simp only [List.lookup_cons, List.lookup_nil, h.1, h.2.1, h.2.2.1, h.2.2.2.1, h.2.2.2.2.1, h.2.2.2.2.2.1, h.2.2.2.2.2.2.1, h.2.2.2.2.2.2.2.1, h.2.2.2.2.2.2.2.2.1, h.2.2.2.2.2.2.2.2.2.1, h.2.2.2.2.2.2.2.2.2.2]
end
def spHoldsNS (K : PySem.W.Frag) (CC CS : Addr) : Sp := fun vs H Q _ => ∃ (c a D : Addr) (T : List (List Ent)) (p : Pap) (m0 m1 m2 : CM) (w0 w1 w2 : Wk) (i j cc n : Nat) (B : Int), vs = [.ref c] ∧ CrsAt K CC CS H c a D T p m0 m1 m2 w0 w1 w2 i j ∧ p.1 ≠ .street ∧ PapOk p ∧ TabOk cc n T ∧ Fit cc n B (col m2, w2) ∧
  ∀ (b : Bool) (H' : Hp), (b = true ↔ HoldsNS T p (col m1, w1) (col m2, w2) i j) → Same H H' → Q (.bl b) H'
theorem dict_same {m1 m2 : CM} (n1 : (m1.map (·.1)).Nodup) (n2 : (m2.map (·.1)).Nodup) (z1 : ∀ e ∈ m1, e.2 ≠ 0) (z2 : ∀ e ∈ m2, e.2 ≠ 0) : ((cellK m2).length = (cellK m1).length ∧ ∀ p ∈ cellK m2, valV (cellK m1) p.1 = some p.2) ↔ col m2 = col m1 := by
  constructor
  · rintro ⟨hl, h⟩
    rw [cell_len, cell_len] at hl
    have sub : ∀ e ∈ m2, e ∈ m1 := fun e he => by
      have z := h (ptK e.1, V.int e.2) (List.mem_map.mpr ⟨e, he, rfl⟩)
      have z : valV (cellK m1) (ptK e.1) = some (V.int e.2) := z
      rw [cell_val] at z
      cases q : look m1 e.1 with
      | none =>
        rw [q] at z
        cases z
      | some c =>
        rw [q] at z
        have : c = e.2 := by
          have := Option.some.inj z
          injection this
        have := look_mem q
        subst c
        exact this
    funext p
    unfold col
    cases q : look m2 p with
    | some c =>
      have e1 := sub _ (look_mem q)
      rw [mem_look n1 e1]
    | none =>
      cases q1 : look m1 p with
      | none => rfl
      | some c =>
        exfalso
        have e1 := look_mem q1
        -- the keys of m2 are as many, all among those of m1
        have ks : ∀ k ∈ m2.map (·.1), k ∈ m1.map (·.1) := fun k hk => by
          obtain ⟨e, he, rfl⟩ := List.mem_map.mp hk
          exact List.mem_map.mpr ⟨e, sub e he, rfl⟩
        have hp1 : p ∈ m1.map (·.1) := List.mem_map.mpr ⟨_, e1, rfl⟩
        have hp2 : p ∉ m2.map (·.1) := fun z => by
          obtain ⟨e, he, ee⟩ := List.mem_map.mp z
          have := mem_look n2 (show (e.1, e.2) ∈ m2 from he)
          rw [ee, q] at this
          cases this
        have nd3 : (p :: m2.map (·.1)).Nodup := List.nodup_cons.mpr ⟨hp2, n2⟩
        have sub3 : ∀ k ∈ p :: m2.map (·.1), k ∈ m1.map (·.1) := fun k hk => by
          rcases List.mem_cons.mp hk with rfl | hk
          · exact hp1
          · exact ks k hk
        have := nodup_sub nd3 sub3
        rw [List.length_cons, List.length_map, List.length_map] at this
        omega
  · intro h
    have eqv : ∀ p, look m2 p = look m1 p := fun p => by
      have z := congrFun h p
      unfold col at z
      cases q : look m2 p with
      | none =>
        cases q1 : look m1 p with
        | none => rfl
        | some c =>
          rw [q, q1] at z
          exact absurd z.symm (z1 _ (look_mem q1))
      | some c =>
        cases q1 : look m1 p with
        | none =>
          rw [q, q1] at z
          exact absurd z (z2 _ (look_mem q))
        | some d =>
          rw [q, q1] at z
          rw [show c = d from z]
    have sub : ∀ {a b : CM}, (a.map (·.1)).Nodup → (∀ p, look a p = look b p) → ∀ k ∈ a.map (·.1), k ∈ b.map (·.1) := fun na e k hk => by
      obtain ⟨x, hx, rfl⟩ := List.mem_map.mp hk
      have := mem_look na (show (x.1, x.2) ∈ _ from hx)
      rw [e] at this
      exact List.mem_map.mpr ⟨_, look_mem this, rfl⟩
    refine ⟨?_, fun p hp => ?_⟩
    · rw [cell_len, cell_len]
      have l1 := nodup_sub n2 (sub n2 eqv)
      have l2 := nodup_sub n1 (sub n1 fun p => (eqv p).symm)
      rw [List.length_map, List.length_map] at l1 l2
      omega
    · obtain ⟨e, he, rfl⟩ := List.mem_map.mp hp
      show valV (cellK m1) (ptK e.1) = some (V.int e.2)
      rw [cell_val, ← eqv, mem_look n2 (show (e.1, e.2) ∈ m2 from he)]
      rfl
theorem shp_wk (w : Wk) : SeqAt.shaped (wkD w) = true := by
  have f : flatT 2 (wkD w) := fun d hd => by
    obtain ⟨k, _, rfl⟩ := List.mem_map.mp (show d ∈ [w.1, w.2.1, w.2.2.1, w.2.2.2].map PyData.int from hd)
    trivial
  exact (f.shp (by decide)).1
theorem eqv_wk (a b : Wk) : PyData.eqv (wkD a) (wkD b) = true ↔ a = b := by
  obtain ⟨a1, a2, a3, a4⟩ := a
  obtain ⟨b1, b2, b3, b4⟩ := b
  simp [wkD, PyData.eqv, PyData.eqvAll]

/-! ### lists that a zip cuts; sorted(d); d.setdefault for keys that are tuples; lcm -/
theorem for_zipS {K : PySem.W.Frag} {a b : Addr} {xs ys : List V} {g : TG} {tb : TS} {D : L2.Ends} {σ : L2.St} {H : Hp} (hl : ys.length ≤ xs.length) (Pv : Nat → L2.St → Hp → Prop) (h0 : Pv 0 σ H) (hq : ∀ i σ H, Pv i σ H → SqL K H a xs ∧ SqL K H b ys)
    (hs : ∀ (i : Nat) (x y : V) (T : Addr) (σ : L2.St) (H : Hp), xs[i]? = some x → ys[i]? = some y → Pv i σ H → H T = none → g (.ref T) σ (upd H T (.tup [x, y])) fun σ2 H2 => tb { D with nx := Pv (i + 1), ct := Pv (i + 1), bk := D.nx } σ2 H2) (hd : ∀ σ H, Pv ys.length σ H → D.nx σ H) :
    ∃ W : Nat → Nat → L2.St → Hp → Prop, (∃ m, W 0 m σ H) ∧ ∀ i m σ H, W i m σ H →
      ((Itz K a b).stop i H ∧ D.nx σ H) ∨ ((Itz K a b).go i H ∧ ∃ N : L2.St → Hp → Prop, (∀ σ' H', N σ' H' → ∃ m', m' < m ∧ W (i + 1) m' σ' H') ∧ ∀ v H', (Itz K a b).yld i H v H' → g v σ H' fun σ2 H2 => tb { D with nx := N, ct := N, bk := D.nx } σ2 H2) := by
  refine ⟨fun i m σ H => m = ys.length - i ∧ i ≤ ys.length ∧ Pv i σ H, ⟨ys.length, rfl, Nat.zero_le _, h0⟩, ?_⟩
  rintro i m σ H ⟨rfl, hi, p⟩
  obtain ⟨qx, qy⟩ := hq i σ H p
  by_cases hlt : i < ys.length
  · have hx : xs[i]? = some xs[i] := List.getElem?_eq_getElem (by omega)
    have hy : ys[i]? = some ys[i] := List.getElem?_eq_getElem hlt
    refine .inr ⟨⟨xs, ys, _, _, qx, qy, hx, hy⟩, Pv (i + 1), fun σ' H' p' => ⟨ys.length - (i + 1), by omega, rfl, hlt, p'⟩, fun v H' y => ?_⟩
    obtain ⟨T, x', y', rfl, hT, rfl, f1, f2⟩ := y
    exact hs i x' y' T σ H (f1 xs qx) (f2 ys qy) p hT
  · have e : i = ys.length := by omega
    subst e
    exact .inl ⟨⟨xs, ys, qx, qy, Or.inr (Nat.le_refl _)⟩, hd σ H p⟩
section
variable {X : Cx}
def rSetdT : V → List V → Hp → VK → Prop := fun x xs H Q => ∃ (a : Addr) (kvs : List (List Key × V)) (k : List Key) (b : Addr) (d : V), x = .ref a ∧ xs = [.ref b, d] ∧ H a = some (.dT kvs) ∧ H b = some (.tup (k.map kV)) ∧ kvs.length < sizeLine ∧
  (∀ v, valV kvs k = some v → Q v H) ∧ (valV kvs k = none → Q d (upd H a (.dT (putK kvs k d))))
theorem mt_setdT (hu : X.A.units + 1 < cLine) : MtR X "dict.setdefault" rSetdT := by
  intro pins s σ H x xs v us Q I rx rxs h
  obtain ⟨a, kvs, k, b, d, rfl, rfl, ha, hb, hl, q1, q2⟩ := h
  cases rx
  obtain ⟨u1, u2, rfl, r1, r2⟩ := vals2 rxs
  cases r1
  obtain ⟨z, hd, xs', rel, dd⟩ := dt_of I.hok ha
  have hz : xs'.length ≤ sizeLine := by rw [← Paired.length rel]; exact z
  have hl2 : (putK kvs k d).length ≤ sizeLine := by
    have := length_putK kvs k d
    omega
  refine call_setdefault_heap (knd := tupleKind (mixKind X.prog X.w)) (k := k) (tupleKind_room_in1 hu) (key_of I.hok hb) hd dd (fun p hp => ?_) (fun hn h' dd' sb => ?_) hz
  · have r := rel.val k
    rw [hp] at r
    obtain ⟨v0, ev, rv⟩ : ∃ v0, valV kvs k = some v0 ∧ RelV v0 p.2 := by
      cases ev : valV kvs k with
      | none =>
        rw [ev] at r
        exact (show False from r).elim
      | some v0 =>
        rw [ev] at r
        exact ⟨v0, rfl, r⟩
    exact ⟨v0, H, I.tok _, rv, q1 v0 ev⟩
  · have r := rel.val k
    rw [hn] at r
    have e : valV kvs k = none := by
      cases ev : valV kvs k with
      | none => rfl
      | some v0 =>
        rw [ev] at r
        exact (show False from r).elim
    obtain ⟨o2, es, ep, g2, c2, t2, e2, _, n2⟩ := dd'
    refine ⟨d, upd H a (.dT (putK kvs k d)), d_write (t' := s.toks + (tupleKind (mixKind X.prog X.w)).draws k) I (by rw [ha]; trivial) sb ⟨o2, g2⟩ ⟨hl2, hd, _, (rel.put k hb r2).keeps fun c ys ec => ?_, o2, es, ep, g2, c2, t2, e2, n2⟩, r2, q2 e⟩
    exact (upd_ne (ne_of ec ha (fun z => nomatch z))).trans ec
/-- sorted(d) of a dict, its keys ints, any number of them -/
def rSortedDI : List V → Hp → VK → Prop := fun xs H Q => ∃ (a : Addr) (kvs : List (Key × V)) (ks : List Int), xs = [.ref a] ∧ H a = some (.dK kvs) ∧ kvs.map (·.1) = ks.map Sum.inl ∧
  ∀ (ys : List Int) (p : Addr), ys.Perm ks → ys.Pairwise (· ≤ ·) → H p = none → Q (.ref p) (upd H p (.lst (ys.map V.int)))
theorem cr_sortedDI (hcalm : X.calm = true) : CallR X (.builtin "sorted") rSortedDI := by
  intro pins s σ H xs us Q I r q
  obtain ⟨a, kvs, ks, ex, hd, hks, q⟩ := q
  subst ex
  obtain ⟨u, eu, rx⟩ := vals1 r
  subst eu
  cases rx
  obtain ⟨z, lo, vs, rel, dd⟩ := dk_of I.hok hd
  obtain ⟨ep, hat⟩ := dd.dictAt
  have hkeys : vs.map (·.1) = ks.map Sum.inl := rel.keys.symm.trans hks
  have hl : vs.length = ks.length := by
    have e := congrArg List.length hkeys
    rw [List.length_map, List.length_map] at e
    exact e
  have h16 : vs.length ≤ sizeLine := by
    rw [← rel.length]
    exact z
  refine Calls.call_function_entry PyProof.Rows.kind_sorted PyProof.Rows.plain_sorted PyProof.Rows.entry_sorted (PyProof.Rows.args_sorted1 _) ?_
  unfold Builtin.«sorted»
  refine wpAny_bind (m := checkCount "sorted" 1 1 _) (wpAny_pure ?_)
  refine wpAny_bind (PySem.W.kdu_collect (A := X.A.in1) (PySem.W.kdl_dict (knd := mixKind X.prog X.w) (kvs := vs) (ep := ep) lo) (I.ok.hd hcalm) hat h16 fun h' tk acc hk hacc => ?_)
  have hal : acc.toList.length = ks.length := by rw [Array.length_toList, hacc.1, hl]
  have hS : IntsAre acc.toList ks := ints_each hal fun j v e => by
    obtain ⟨k, x, e1, e2⟩ := hacc.2 j v (by rw [← Array.getElem?_toList]; exact e)
    have e3 : (vs.map (·.1))[j]? = some k := by rw [List.getElem?_map, e1]; rfl
    rw [hkeys, List.getElem?_map] at e3
    cases e4 : ks[j]? with
    | none => rw [e4] at e3; cases e3
    | some y =>
      rw [e4] at e3
      have e5 : Sum.inl y = k := Option.some.inj e3
      subst e5
      rcases keyIs_shape (show keyIs (Sum.inl y) v = true from e2) with ⟨i, t, ek, ev⟩ | ⟨z, t, ek, ev⟩
      · cases ek
        exact ⟨y, t, rfl, ev⟩
      · cases ek
  have I1 : Inv X pins σ H { s with heap := h', toks := tk } := I.kept hk
  have hz2 : acc.toList.length ≤ sizeLine := by rw [hal, ← hl]; exact h16
  refine wpAny_bind (wpAny_newList ?_ hz2)
  have hoL : (h'.push (seqObj "list" acc.toList.toArray 0)).get? h'.objs.size = some (seqObj "list" acc.toList.toArray 0) := Heap.get?_push_size _ rfl
  show wpAny _ _ _ _ _ { s with heap := h'.push (seqObj "list" acc.toList.toArray 0), toks := tk }
  refine wpAny_bind (wpAny_holding (wpAny_call_entry PyProof.Rows.slot_list_sort ⟨_, hoL, rfl⟩ PyProof.Rows.entry_list_sort
    (SrtO.list_sort_ord SrtO.swo_int hoL hz2 (fun h2 => SrtO.ints_sortable hS h2) fun out h1 h2 => ⟨_, rfl, ?_⟩) (PyProof.Rows.args_list_sort _)))
  obtain ⟨k1, k2, k3⟩ := SrtO.ints_out hS h1 h2
  obtain ⟨e', he'⟩ := PyProof.Rows.sortedHeap_at (vs := acc.toList) (out := out.toArray) hoL
  have hlen : ((out.map SrtO.iv).map V.int).length ≤ sizeLine := by
    rw [List.length_map, k2.length_eq, ← hal]
    exact hz2
  have hf : H h'.objs.size = none := I1.hok.fresh (Nat.le_refl _)
  refine wpAny_pure ⟨_, rfl, .ref h'.objs.size, upd H h'.objs.size (.lst ((out.map SrtO.iv).map V.int)), I1.laid (t' := tk) (fun b u e => ?_) (Nat.le_refl _) ⟨hlen, out, e', vals_of_ints k1, he'⟩, rfl, q _ _ k2 k3 hf⟩
  have hb : b < h'.objs.size := Heap.lt_size e
  rw [PyProof.Rows.sortedHeap_old (Nat.ne_of_lt hb) (by rw [size_push']; exact Nat.lt_succ_of_lt hb)]
  exact Heap.get?_push_of_some _ e
/-- math.lcm -/
def CLcm (a b : Int) : Prop := a.natAbs < 2 ^ 31 ∧ b.natAbs < 2 ^ 31
def rLcm : List V → Hp → VK → Prop := fun vs H Q => ∃ a b : Int, vs = [.int a, .int b] ∧ CLcm a b ∧ ∀ c : Int, c = (((Nat.lcm 1 a.natAbs).lcm b.natAbs : Nat) : Int) → Q (.int c) H
theorem cr_lcm : CallR X (.builtin "math.lcm") rLcm := by
  intro pins s σ H vs us Q I r h
  obtain ⟨a, b, rfl, ⟨ha, hb⟩, q⟩ := h
  obtain ⟨t, u, rfl⟩ := Vals.int2 r
  have e31 : (2 : Nat) ^ 31 < 2 ^ 64 := by decide
  refine PySem.W.mg_lcm (by omega) (by omega) ?_ ⟨.int _, H, I.tok _, ⟨_, rfl⟩, q _ rfl⟩
  have h1 : (Nat.lcm 1 a.natAbs).lcm b.natAbs ≤ a.natAbs * b.natAbs := by
    rw [Nat.lcm_one_left]
    unfold Nat.lcm
    exact Nat.div_le_self _ _
  have h2 : a.natAbs * b.natAbs < 2 ^ 62 := by
    have := Nat.mul_lt_mul'' ha hb
    have e : (2 : Nat) ^ 31 * 2 ^ 31 = 2 ^ 62 := by decide
    omega
  have h3 : ((((Nat.lcm 1 a.natAbs).lcm b.natAbs : Nat) : Int)).natAbs = (Nat.lcm 1 a.natAbs).lcm b.natAbs := rfl
  rw [h3]
  have h4 : ((Nat.lcm 1 a.natAbs).lcm b.natAbs).log2 ≤ 62 := PySem.W.mg_log (by omega)
  have e : bitsLine = 134217728 := by decide
  omega
end
theorem k_zip {K : PySem.W.Frag} {X : Cx} {e e2 : Expr} {ta : TA} {p pos tpos : Pos} {elts : List Expr} {kk : Nat} (hg : Gl X "zip") (hm : X.mg "zip" = none) (ha : PA X [e, e2] ta)
    (hs : starEach [e, e2] X.env = (false, eval e X.env) :: starEach [e2] X.env := by rfl) (hpl : (backTo pos (starEach [e2] X.env)).any (·.1) = false := by rfl) (hK : X.K = K := by rfl) :
    PI X (.Tuple elts kk tpos) (.Call (.Name "zip" p) [e, e2] [] pos) (RZ.iZipA K ta) := hK ▸ RZ.pi_zipA hg hm ha hs hpl

/-! ### lanes of a move -/
def alo (p m : Pt) : Int := if m.1 ≠ 0 then p.1.fdiv m.1 else p.2.fdiv m.2
def lan (p m : Pt) : Pt := (p.1 - alo p m * m.1, p.2 - alo p m * m.2)
def mvk (p m : Pt) (k : Int) : Pt := (p.1 + k * m.1, p.2 + k * m.2)
theorem mvk_add (p m : Pt) (a b : Int) : mvk (mvk p m a) m b = mvk p m (a + b) := by
  unfold mvk
  rw [Int.add_mul, Int.add_mul]
  refine Prod.ext ?_ ?_
  · show p.1 + a * m.1 + b * m.1 = p.1 + (a * m.1 + b * m.1)
    omega
  · show p.2 + a * m.2 + b * m.2 = p.2 + (a * m.2 + b * m.2)
    omega
theorem mvk_zero (p m : Pt) : mvk p m 0 = p := by
  unfold mvk
  rw [Int.zero_mul, Int.zero_mul, Int.add_zero, Int.add_zero]
theorem alo_mvk {m : Pt} (h : m ≠ (0, 0)) (p : Pt) (k : Int) : alo (mvk p m k) m = alo p m + k := by
  unfold alo mvk
  by_cases h1 : m.1 ≠ 0
  · rw [if_pos h1, if_pos h1]
    exact Int.add_mul_fdiv_right _ _ h1
  · rw [if_neg h1, if_neg h1]
    have h2 : m.2 ≠ 0 := fun z => h (Prod.ext (Classical.not_not.mp h1) z)
    exact Int.add_mul_fdiv_right _ _ h2
theorem lan_mvk {m : Pt} (h : m ≠ (0, 0)) (p : Pt) (k : Int) : lan (mvk p m k) m = lan p m := by
  unfold lan
  rw [alo_mvk h]
  unfold mvk
  rw [Int.add_mul, Int.add_mul]
  refine Prod.ext ?_ ?_
  · show p.1 + k * m.1 - (alo p m * m.1 + k * m.1) = p.1 - alo p m * m.1
    omega
  · show p.2 + k * m.2 - (alo p m * m.2 + k * m.2) = p.2 - alo p m * m.2
    omega
theorem lan_back (p m : Pt) : mvk (lan p m) m (alo p m) = p := by
  unfold mvk lan
  refine Prod.ext ?_ ?_
  · show p.1 - alo p m * m.1 + alo p m * m.1 = p.1
    omega
  · show p.2 - alo p m * m.2 + alo p m * m.2 = p.2
    omega
theorem lan_eq {m p q : Pt} (h : lan p m = lan q m) : q = mvk p m (alo q m - alo p m) := by
  have e1 := lan_back p m
  have e2 := lan_back q m
  have e4 : mvk p m (alo q m - alo p m) = mvk (lan p m) m (alo p m + (alo q m - alo p m)) := by
    rw [← mvk_add, e1]
  rw [e4, h, show alo p m + (alo q m - alo p m) = alo q m by omega]
  exact e2.symm
def blankG : PyData := .tuple [.tuple [.int 0]]
def spGround0 (K : PySem.W.Frag) : Sp := fun vs H Q _ => ∃ (gv : V) (pa : Addr) (p : Pt), vs = [gv, .ref pa] ∧ Tp K H gv blankG ∧ SqT K H pa [.int p.1, .int p.2] ∧ Q (.int 0) H
def spLaneOf (K : PySem.W.Frag) : Sp := fun vs H Q _ => ∃ (pa ma : Addr) (p m : Pt), vs = [.ref pa, .ref ma] ∧ SqT K H pa [.int p.1, .int p.2] ∧ SqT K H ma [.int m.1, .int m.2] ∧ m ≠ (0, 0) ∧ m.1.natAbs ≤ 3000 ∧ m.2.natAbs ≤ 3000 ∧
  ∀ (r la : Addr) (H' : Hp), H' r = some (.tup [.ref la, .int (alo p m)]) → H' la = some (.tup [.int (lan p m).1, .int (lan p m).2]) → Same H H' → Q (.ref r) H'
section
variable {P : Program} {w : World} {K : PySem.W.Frag} {mg : Str → Option Value} {base : Heap}
local macro_rules | `(tactic| walk_at "cl") => `(tactic| first | (refine le_only ?_; omega) | (refine lt_only ?_; omega) | assumption)
theorem ok_ground_colour0 (T : Txt K mg) (D : DefAt K mg "ground_colour" s_ground_colour ["ground", "place"]) : Cal P w K mg base CX0 "ground_colour" 1 ["ground", "place"] (spGround0 K) := by
  refine D.cal sc_ground_colour (fun vs H Q E h => ?_) (fun f cdv A outer s H vs Q E hr h => ?_)
  · obtain ⟨gv, pa, p, rfl, _⟩ := h
    rfl
  · obtain ⟨gv, pa, p, rfl, hg, hp, q⟩ := h
    refine ⟨_, (pss_cons (ps_asg (pv 1) (pg_tup (by rfl) (pgs_cons (pg_name (i := 2) sc_ground_colour.nd rfl (Or.inl rfl)) (pgs_cons (pg_name (i := 3) sc_ground_colour.nd rfl (Or.inl rfl)) pgs_nil))))
      (pss_cons (ps_set (i := 4) sc_ground_colour.nd rfl (Or.inl rfl) (pe_ix (k_ix_tup (K := K)) (pv 0) (pe_op op_mod (pv 3) (pe_callB (k_len_t (K := K)) (by rfl) T.m_len (by decide +kernel) (pa_cons (pv 0) pa_nil))) (fun _ _ => rfl)))
      (pss_one (ps_ret (pe_ix (k_ix_tup (K := K)) (pv 4) (pe_op op_mod (pv 2) (pe_callB (k_len_t (K := K)) (by rfl) T.m_len (by decide +kernel) (pa_cons (pv 4) pa_nil))) (fun _ _ => rfl)))))), ?_⟩
    obtain ⟨ga, xs, rfl, hga, hx⟩ := (show Tp K H gv (.tuple [.tuple [.int 0]]) from hg).tupI
    obtain ⟨rv, xs, rfl, hr, hx⟩ := hx.consI
    obtain rfl := hx.nilI
    obtain ⟨ra, ys, rfl, hra, hy⟩ := hr.tupI
    obtain ⟨iv, ys, rfl, hi, hy⟩ := hy.consI
    obtain rfl := hy.nilI
    obtain rfl := hi.intI
    have m1 : atI [V.ref ra] (p.2 % (([V.ref ra] : List V).length : Int)) = some (.ref ra) := by
      rw [show p.2 % (([V.ref ra] : List V).length : Int) = 0 from Int.emod_one _]
      rfl
    have m2 : atI [V.int 0] (p.1 % (([V.int 0] : List V).length : Int)) = some (.int 0) := by
      rw [show p.1 % (([V.int 0] : List V).length : Int) = 0 from Int.emod_one _]
      rfl
    walk_at "st"
    exact q
theorem ok_lane_of (T : Txt K mg) (D : DefAt K mg "lane_of" s_lane_of ["place", "move"]) : Cal P w K mg base CX0 "lane_of" 1 ["place", "move"] (spLaneOf K) := by
  refine D.cal sc_lane_of (fun vs H Q E h => ?_) (fun f cdv A outer s H vs Q E hr h => ?_)
  · obtain ⟨pa, ma, p, m, rfl, _⟩ := h
    rfl
  · obtain ⟨pa, ma, p, m, rfl, hp, hm, nz, b1, b2, q⟩ := h
    refine ⟨_, (pss_cons (ps_set (i := 2) sc_lane_of.nd rfl (Or.inl rfl) (pe_ifExp (pt_cmpR op_ne (pe_ix (k_ix_tup (K := K)) (pv 1) pe_int (fun _ _ => rfl)) pe_int (nomark _)) (pe_op op_fdivN (pe_ix (k_ix_tup (K := K)) (pv 0) pe_int (fun _ _ => rfl)) (pe_ix (k_ix_tup (K := K)) (pv 1) pe_int (fun _ _ => rfl))) (pe_op op_fdivN (pe_ix (k_ix_tup (K := K)) (pv 0) pe_int (fun _ _ => rfl)) (pe_ix (k_ix_tup (K := K)) (pv 1) pe_int (fun _ _ => rfl)))))
      (pss_one (ps_ret (pe_tup (pa_cons (pe_tup (pa_cons (pe_op op_sub (pe_ix (k_ix_tup (K := K)) (pv 0) pe_int (fun _ _ => rfl)) (pe_op op_mul (pv 2) (pe_ix (k_ix_tup (K := K)) (pv 1) pe_int (fun _ _ => rfl)))) (pa_cons (pe_op op_sub (pe_ix (k_ix_tup (K := K)) (pv 0) pe_int (fun _ _ => rfl)) (pe_op op_mul (pv 2) (pe_ix (k_ix_tup (K := K)) (pv 1) pe_int (fun _ _ => rfl)))) pa_nil))) (pa_cons (pv 2) pa_nil)))))), ?_⟩
    walk_at "st"
    refine ite2 (fun e => ?_) (fun e => ?_)
    · have e : m.1 ≠ 0 := by
        intro z
        rw [z] at e
        exact absurd e (by decide)
      have ea : p.1.fdiv m.1 = alo p m := by
        unfold alo
        rw [if_pos e]
      have dv : CDivN p.1 m.1 := ⟨e, by omega⟩
      have c1 : CMul (p.1.fdiv m.1) m.1 := .inr ⟨by omega, by omega⟩
      have c2 : CMul (p.1.fdiv m.1) m.2 := .inr ⟨by omega, by omega⟩
      have l1 : (lan p m).1 = p.1 - p.1.fdiv m.1 * m.1 := by
        unfold lan
        rw [ea]
      have l2 : (lan p m).2 = p.2 - p.1.fdiv m.1 * m.2 := by
        unfold lan
        rw [ea]
      rw [l1, l2, ← ea] at q
      walk_at "st"
      intro la nla
      walk_at "st"
      intro r nr
      have nrl : r ≠ la := fun z => by
        rw [z, upd_same] at nr
        cases nr
      exact q r la _ upd_same (by rw [upd_ne nrl.symm]; exact upd_same) (Same.trans (Same.new nla) (Same.new nr))
    · have e : m.1 = 0 := by
        apply Classical.byContradiction
        intro z
        refine e ?_
        simpa using z
      have e2 : m.2 ≠ 0 := fun z => nz (Prod.ext e z)
      have ea : p.2.fdiv m.2 = alo p m := by
        unfold alo
        rw [if_neg (fun z => z e)]
      have dv : CDivN p.2 m.2 := ⟨e2, by omega⟩
      have c1 : CMul (p.2.fdiv m.2) m.1 := .inr ⟨by omega, by omega⟩
      have c2 : CMul (p.2.fdiv m.2) m.2 := .inr ⟨by omega, by omega⟩
      have l1 : (lan p m).1 = p.1 - p.2.fdiv m.2 * m.1 := by
        unfold lan
        rw [ea]
      have l2 : (lan p m).2 = p.2 - p.2.fdiv m.2 * m.2 := by
        unfold lan
        rw [ea]
      rw [l1, l2, ← ea] at q
      walk_at "st"
      intro la nla
      walk_at "st"
      intro r nr
      have nrl : r ≠ la := fun z => by
        rw [z, upd_same] at nr
        cases nr
      exact q r la _ upd_same (by rw [upd_ne nrl.symm]; exact upd_same) (Same.trans (Same.new nla) (Same.new nr))
end

/-! ### one lane: what it wants, by its visited places in order -/
def LaneOk (ks : List Int) (rd pt cl : Int → Int) : Prop := ∀ k ∈ ks, (∃ k' ∈ ks, k < k' ∧ (∀ k'' ∈ ks, k < k'' → k' ≤ k'') ∧ pt k' = rd k ∧ ∀ j, k < j → j < k' → cl j = rd k) ∨ ((∀ k' ∈ ks, k' ≤ k) ∧ rd k = 0 ∧ ∀ j, k < j → cl j = 0)
theorem pw_get {ys : List Int} (h : ys.Pairwise (· < ·)) {i j : Nat} {a b : Int} (ha : ys[i]? = some a) (hb : ys[j]? = some b) (l : i < j) : a < b := by
  obtain ⟨hi, rfl⟩ := List.getElem?_eq_some_iff.mp ha
  obtain ⟨hj, rfl⟩ := List.getElem?_eq_some_iff.mp hb
  exact (List.pairwise_iff_getElem.mp h) i j hi hj l
theorem lane_iff {ks ys : List Int} {rd pt cl : Int → Int} (m : ∀ k, k ∈ ys ↔ k ∈ ks) (st : ys.Pairwise (· < ·)) {n : Nat} {z : Int} (hn : ys.length = n + 1) (hz : ys[n]? = some z) : LaneOk ks rd pt cl ↔ (∀ i a b, ys[i]? = some a → ys[i + 1]? = some b → pt b = rd a ∧ ∀ j, a < j → j < b → cl j = rd a) ∧ rd z = 0 ∧ ∀ j, z < j → cl j = 0 := by
  have top : ∀ k ∈ ks, k ≤ z := fun k hk => by
    obtain ⟨i, hi, e⟩ := List.mem_iff_getElem.mp ((m k).mpr hk)
    have e : ys[i]? = some k := by rw [List.getElem?_eq_getElem hi, e]
    rcases Nat.lt_or_ge i n with l | l
    · have := pw_get st e hz l
      omega
    · have : i = n := by omega
      subst this
      rw [e] at hz
      have := Option.some.inj hz
      omega
  have zk : z ∈ ks := (m z).mp (List.mem_of_getElem? hz)
  constructor
  · intro h
    refine ⟨fun i a b ha hb => ?_, ?_⟩
    · have ab := pw_get st ha hb (Nat.lt_succ_self i)
      have bk := (m b).mp (List.mem_of_getElem? hb)
      rcases h a ((m a).mp (List.mem_of_getElem? ha)) with ⟨k', hk', l, least, hp, hc⟩ | ⟨g, _⟩
      · have e : k' = b := by
          have l1 := least b bk ab
          obtain ⟨i2, hi2, e2⟩ := List.mem_iff_getElem.mp ((m k').mpr hk')
          have e2 : ys[i2]? = some k' := by rw [List.getElem?_eq_getElem hi2, e2]
          rcases Nat.lt_or_ge i2 (i + 1) with c | c
          · rcases Nat.lt_or_ge i2 i with c2 | c2
            · have := pw_get st e2 ha c2
              omega
            · have : i2 = i := by omega
              subst this
              rw [ha] at e2
              have := Option.some.inj e2
              omega
          · rcases Nat.eq_or_lt_of_le c with c2 | c2
            · subst c2
              rw [hb] at e2
              exact (Option.some.inj e2).symm
            · have := pw_get st hb e2 c2
              omega
        subst e
        exact ⟨hp, hc⟩
      · have := g b bk
        omega
    · rcases h z zk with ⟨k', hk', l, _⟩ | ⟨_, h2, h3⟩
      · have := top k' hk'
        omega
      · exact ⟨h2, h3⟩
  · rintro ⟨h1, h2, h3⟩ k hk
    obtain ⟨i, hi, e⟩ := List.mem_iff_getElem.mp ((m k).mpr hk)
    have e : ys[i]? = some k := by rw [List.getElem?_eq_getElem hi, e]
    rcases Nat.lt_or_ge i n with l | l
    · have hb : ys[i + 1]? = some ys[i + 1] := List.getElem?_eq_getElem (by omega)
      obtain ⟨g1, g2⟩ := h1 i k _ e hb
      refine .inl ⟨_, (m _).mp (List.mem_of_getElem? hb), pw_get st e hb (Nat.lt_succ_self i), fun k'' hk'' l2 => ?_, g1, g2⟩
      obtain ⟨i2, hi2, e2⟩ := List.mem_iff_getElem.mp ((m k'').mpr hk'')
      have e2 : ys[i2]? = some k'' := by rw [List.getElem?_eq_getElem hi2, e2]
      rcases Nat.lt_or_ge i2 (i + 1) with c | c
      · exfalso
        rcases Nat.lt_or_ge i2 i with c2 | c2
        · have := pw_get st e2 e c2
          omega
        · have : i2 = i := by omega
          subst this
          rw [e] at e2
          have := Option.some.inj e2
          omega
      · rcases Nat.eq_or_lt_of_le c with c2 | c2
        · subst c2
          rw [hb] at e2
          rw [Option.some.inj e2]
          exact Int.le_refl _
        · have := pw_get st hb e2 c2
          omega
    · have : i = n := by omega
      subst this
      rw [hz] at e
      have := Option.some.inj e
      subst this
      exact .inr ⟨top, h2, h3⟩
/-- the visits of a lane, laid -/
def VisD (H : Hp) (va : Addr) (ks : List Int) (rd pt : Int → Int) : Prop := ∃ kvs, H va = some (.dK kvs) ∧ kvs.map (·.1) = ks.map Sum.inl ∧ ks.Nodup ∧ ∀ k ∈ ks, ∃ t, valV kvs (Sum.inl k) = some (.ref t) ∧ H t = some (.tup [.int (rd k), .int (pt k)])
/-- the colours of a lane, laid -/
def colK (cs : List (Int × Int)) : List (Key × V) := cs.map fun e => (Sum.inl e.1, V.int e.2)
def lkI : List (Int × Int) → Int → Option Int
  | [], _ => none
  | e :: r, k => if e.1 = k then some e.2 else lkI r k
theorem colK_val : ∀ (cs : List (Int × Int)) (k : Int), valV (colK cs) (Sum.inl k) = (lkI cs k).map V.int
  | [], _ => rfl
  | e :: r, k => by
    unfold lkI
    by_cases h : e.1 = k
    · rw [if_pos h]
      exact valV_pos (p := ((Sum.inl e.1 : Key), V.int e.2)) (congrArg Sum.inl h)
    · rw [if_neg h]
      exact (valV_neg (p := ((Sum.inl e.1 : Key), V.int e.2)) (fun z => h (Sum.inl.inj z))).trans (colK_val r k)
theorem lkI_mem : ∀ {cs : List (Int × Int)} {k c : Int}, lkI cs k = some c → (k, c) ∈ cs
  | e :: r, k, c, h => by
    unfold lkI at h
    by_cases z : e.1 = k
    · rw [if_pos z] at h
      have h := Option.some.inj h
      rw [← h, ← z]
      exact List.mem_cons_self
    · rw [if_neg z] at h
      exact List.mem_cons_of_mem _ (lkI_mem h)
theorem mem_lkI : ∀ {cs : List (Int × Int)} {k c : Int}, (cs.map (·.1)).Nodup → (k, c) ∈ cs → lkI cs k = some c
  | e :: r, k, c, nd, h => by
    have nd := List.nodup_cons.mp nd
    unfold lkI
    rcases List.mem_cons.mp h with rfl | h
    · rw [if_pos rfl]
    · have ne : ¬ e.1 = k := fun z => nd.1 (by show e.1 ∈ _; rw [z]; exact List.mem_map.mpr ⟨_, h, rfl⟩)
      rw [if_neg ne]
      exact mem_lkI nd.2 h
def ColD (H : Hp) (ca : Addr) (cl : Int → Int) : Prop := ∃ cs : List (Int × Int), H ca = some (.dK (colK cs)) ∧ (cs.map (·.1)).Nodup ∧ cs.length ≤ 4000 ∧ ∀ j, cl j = (lkI cs j).getD 0

/-! ### _lane_ground, _lane_repeats -/
theorem cutV1 : ∀ xs : List V, cutV xs (some 1) none = xs.drop 1
  | [] => rfl
  | x :: r => by
    have e1 : HT.sIx (x :: r).length 0 (some 1) = 1 := by
      unfold HT.sIx
      simp
    have e2 : HT.sIx (x :: r).length (x :: r).length none = (x :: r).length := rfl
    unfold cutV
    rw [e1, e2]
    exact List.take_of_length_le (by rw [List.length_drop]; exact Nat.le_refl _)
def spLaneGround (K : PySem.W.Frag) : Sp := fun vs H Q _ => ∃ (la ma : Addr) (gv : V) (p m : Pt), vs = [.ref la, .ref ma, gv] ∧ SqT K H la [.int p.1, .int p.2] ∧ SqT K H ma [.int m.1, .int m.2] ∧ Tp K H gv blankG ∧
  ∀ (L : Addr) (H' : Hp), H L = none → H' L = some (.lst [.int 0]) → Same H H' → Q (.ref L) H'
def spLaneRep (K : PySem.W.Frag) : Sp := fun vs H Q _ => ∃ (va ca oa : Addr) (ks : List Int) (rd pt cl : Int → Int), vs = [.ref va, .ref ca, .ref oa] ∧ VisD H va ks rd pt ∧ ColD H ca cl ∧ H oa = some (.lst [.int 0]) ∧ ks ≠ [] ∧ ks.length ≤ 4000 ∧ (∀ k ∈ ks, ∀ k' ∈ ks, k' - k ≤ 4000) ∧ (∀ k ∈ ks, -1000000000000 ≤ k ∧ k ≤ 1000000000000) ∧
  ∀ (b : Bool) (H' : Hp), (b = true ↔ LaneOk ks rd pt cl) → Same H H' → Q (.bl b) H'
section
variable {P : Program} {w : World} {K : PySem.W.Frag} {mg : Str → Option Value} {base : Heap}
local macro_rules | `(tactic| walk_at "cl") => `(tactic| first | (refine le_only ?_; omega) | (refine lt_only ?_; omega) | assumption)
theorem ok_u_lane_ground (T : Txt K mg) (D : DefAt K mg "_lane_ground" s_u_lane_ground ["lane", "move", "ground"]) (C_ground_colour : Cal P w K mg base CX0 "ground_colour" 1 ["ground", "place"] (spGround0 K)) : Cal P w K mg base CX0 "_lane_ground" 2 ["lane", "move", "ground"] (spLaneGround K) := by
  refine D.cal sc_u_lane_ground (fun vs H Q E h => ?_) (fun f cdv A outer s H vs Q E hr h => ?_)
  · obtain ⟨la, ma, gv, p, m, rfl, _⟩ := h
    rfl
  · obtain ⟨la, ma, gv, p, m, rfl, hl, hm, hg, q⟩ := h
    refine ⟨_, (pss_cons (ps_set (i := 3) sc_u_lane_ground.nd rfl (Or.inl rfl) (pe_callBfun cr_lcm (by rfl) T.m_lcm (pa_cons (pe_callB (k_len_t (K := K)) (by rfl) T.m_len (by decide +kernel) (pa_cons (pv 2) pa_nil)) (pa_cons (pe_callB (k_len_t (K := K)) (by rfl) T.m_len (by decide +kernel) (pa_cons (pe_ix (k_ix_tup (K := K)) (pv 2) pe_int (fun _ _ => rfl)) pa_nil)) pa_nil))))
      (pss_one (ps_ret (pe_lc (own := [("along", 4)]) (g := gName 4) rfl sc_u_lane_ground.nd (pi_range1 (by rfl) T.m_range (pa_cons (pv 3) pa_nil)) (blkOk_by (by rfl)) (fun _ _ _ _ _ => (pg_name (i := 4) sc_u_lane_ground.nd rfl (Or.inl rfl))) (fun _ _ _ _ _ => pts_nil) (fun _ _ _ _ _ => (pe_own C_ground_colour hr (by first | decide | omega) (pa_cons (pv 2) (pa_cons (pe_tup (pa_cons (pe_op op_add (pe_ix (k_ix_tup (K := K)) (pv 0) pe_int (fun _ _ => rfl)) (pe_op op_mul (pv 4) (pe_ix (k_ix_tup (K := K)) (pv 1) pe_int (fun _ _ => rfl)))) (pa_cons (pe_op op_add (pe_ix (k_ix_tup (K := K)) (pv 0) pe_int (fun _ _ => rfl)) (pe_op op_mul (pv 4) (pe_ix (k_ix_tup (K := K)) (pv 1) pe_int (fun _ _ => rfl)))) pa_nil))) pa_nil)))))))), ?_⟩
    obtain ⟨ga, xs, rfl, hga, hx⟩ := (show Tp K H gv (.tuple [.tuple [.int 0]]) from hg).tupI
    obtain ⟨rv, xs, rfl, hr2, hx⟩ := hx.consI
    obtain rfl := hx.nilI
    obtain ⟨ra, ys, rfl, hra, hy⟩ := hr2.tupI
    obtain ⟨iv, ys, rfl, hi, hy⟩ := hy.consI
    obtain rfl := hy.nilI
    have z1 : CLcm (([V.ref ra] : List V).length : Int) (([iv] : List V).length : Int) := ⟨by show (1 : Nat) < 2 ^ 31; decide, by show (1 : Nat) < 2 ^ 31; decide⟩
    walk_at "st"
    intro c ec
    have ec : c = 1 := by
      rw [ec]
      show (((Nat.lcm 1 1).lcm 1 : Nat) : Int) = 1
      rw [Nat.lcm_one_left, Nat.lcm_one_left]
      rfl
    subst ec
    walk_at "st"
    intro L nL
    refine lc_range (lo := 0) (n := 1) (fun j H' => Ok (Same H H' ∧ H' L = some (.lst (List.replicate j (V.int 0))))) ⟨Same.new nL, upd_same⟩ ?_ ?_
    · rintro j H' hj ⟨s1, hL⟩
      obtain rfl : j = 0 := by omega
      have hl1 := TK.seqT (Same.tk s1) hl
      have hm1 := TK.seqT (Same.tk s1) hm
      have hg1 := Tp.mono (Same.tk s1) _ _ hg
      have c1 : CMul (0 + ((0 : Nat) : Int)) m.1 := .inl ⟨by decide, by decide⟩
      have c2 : CMul (0 + ((0 : Nat) : Int)) m.2 := .inl ⟨by decide, by decide⟩
      have hsz : (List.replicate 0 (V.int 0)).length < sizeLine := by decide
      walk_at "st"
      intro p1 np1
      have s2 : Same H' (upd H' p1 (.tup [.int (p.1 + (0 + ((0 : Nat) : Int)) * m.1), .int (p.2 + (0 + ((0 : Nat) : Int)) * m.2)])) := Same.new np1
      have hg2 := Tp.mono (Same.tk s2) _ _ hg1
      have hL2 := s2 _ _ hL
      have hp1 : SqT K (upd H' p1 (.tup [.int (p.1 + (0 + ((0 : Nat) : Int)) * m.1), .int (p.2 + (0 + ((0 : Nat) : Int)) * m.2)])) p1 [.int (p.1 + (0 + ((0 : Nat) : Int)) * m.1, p.2 + (0 + ((0 : Nat) : Int)) * m.2).1, .int (p.1 + (0 + ((0 : Nat) : Int)) * m.1, p.2 + (0 + ((0 : Nat) : Int)) * m.2).2] := SqT.of upd_same
      walk_at "st"
      exact ⟨Same.fresh (Same.trans s1 s2) nL, upd_same⟩
    · rintro H' ⟨s1, hL⟩
      exact q L H' nL hL s1
theorem ok_u_lane_repeats (T : Txt K mg) (D : DefAt K mg "_lane_repeats" s_u_lane_repeats ["visits", "colours", "own"]) : Cal P w K mg base CX0 "_lane_repeats" 1 ["visits", "colours", "own"] (spLaneRep K) := by
  refine D.cal sc_u_lane_repeats (fun vs H Q E h => ?_) (fun f cdv A outer s H vs Q E hr h => ?_)
  · obtain ⟨va, ca, oa, ks, rd, pt, cl, rfl, _⟩ := h
    rfl
  · obtain ⟨va, ca, oa, ks, rd, pt, cl, rfl, ⟨kvs, hva, hks, nd, hvis⟩, ⟨cs, hca, ndc, lcs, hcl⟩, hoa, ne, lks, wid, bdk, q⟩ := h
    refine ⟨_, (pss_cons (ps_set (i := 3) sc_u_lane_repeats.nd rfl (Or.inl rfl) (pe_callB (cr_sortedDI rfl) (by rfl) T.m_sorted (by decide +kernel) (pa_cons (pv 0) pa_nil)))
      (pss_cons (ps_for PassesOwn.never rfl (k_zip (K := K) (by rfl) T.m_zip (pa_cons (pv 3) (pa_cons (pe_slice (k_sl_list (K := K)) (pv 3) (po_some pe_int) po_none) pa_nil))) (pg_tup (by rfl) (pgs_cons (pg_name (i := 4) sc_u_lane_repeats.nd rfl (Or.inl rfl)) (pgs_cons (pg_name (i := 5) sc_u_lane_repeats.nd rfl (Or.inl rfl)) pgs_nil)))
      (pss_cons (ps_set (i := 6) sc_u_lane_repeats.nd rfl (Or.inr rfl) (pe_ix (k_ix_tup (K := K)) (pe_dget (hu_of hr) (pv 0) (pv 4) (fun _ _ => rfl)) pe_int (fun _ _ => rfl)))
      (pss_cons (ps_if (pt_cmpR op_ne (pe_ix (k_ix_tup (K := K)) (pe_dget (hu_of hr) (pv 0) (pv 5) (fun _ _ => rfl)) pe_int (fun _ _ => rfl)) (pv 6) (nomark _)) (pss_one (ps_ret pe_bl)) pss_nil)
      (pss_cons (ps_setLc (i := 7) (own := [("between", 10)]) (g := gName 10) rfl sc_u_lane_repeats.nd rfl rfl (sw_true rfl rfl rfl (by decide +kernel)) (pi_range2 (by rfl) T.m_range (pa_cons (pe_op op_add (pv 4) pe_int) (pa_cons (pv 5) pa_nil))) (blkOk_by (by rfl)) (fun _ _ _ _ _ => (pg_name (i := 10) sc_u_lane_repeats.nd rfl (Or.inl rfl))) (fun _ _ _ _ _ => pts_nil) (fun _ _ _ _ _ => (pe_dget2 (hu_of hr) (pv 1) (pv 10) (pe_ix (k_ix_list (K := K)) (pv 2) (pe_op op_mod (pv 10) (pe_callB (k_len_l (K := K)) (by rfl) T.m_len (by decide +kernel) (pa_cons (pv 2) pa_nil))) (fun _ _ => rfl)) (by exact ⟨rfl, rfl, rfl, rfl⟩))))
      (pss_one (ps_if (pt_val (pe_callB (k_any (K := K) rfl) (by rfl) T.m_any (by decide +kernel) (pa_cons (pe_lc (own := [("colour", 11)]) (g := gName 11) rfl sc_u_lane_repeats.nd (k_pi_list (K := K) (pv 7)) (blkOk_by (by rfl)) (fun _ _ _ _ _ => (pg_name (i := 11) sc_u_lane_repeats.nd rfl (Or.inl rfl))) (fun _ _ _ _ _ => pts_nil) (fun _ _ _ _ _ => (pe_cmpR op_ne (pv 11) (pv 6) (nomark _)))) pa_nil))) (pss_one (ps_ret pe_bl)) pss_nil))))))
      (pss_cons (ps_set (i := 8) sc_u_lane_repeats.nd rfl (Or.inr rfl) (pe_ix (k_ix_list (K := K)) (pv 3) (pe_un un_neg pe_int) (fun _ _ => rfl)))
      (pss_cons (ps_set (i := 6) sc_u_lane_repeats.nd rfl (Or.inr rfl) (pe_ix (k_ix_tup (K := K)) (pe_dget (hu_of hr) (pv 0) (pv 8) (fun _ _ => rfl)) pe_int (fun _ _ => rfl)))
      (pss_cons (ps_lock (ps_setLc (i := 9) (own := [("along", 12)]) (g := gName 12) rfl sc_u_lane_repeats.nd rfl rfl (sw_true rfl rfl rfl (by decide +kernel)) (pi_keys (pv 1)) (blkOk_by (by rfl)) (fun _ _ _ _ _ => (pg_name (i := 12) sc_u_lane_repeats.nd rfl (Or.inl rfl))) (fun _ _ _ _ _ => pts_one (pt_cmpR op_gt (pv 12) (pv 8) (nomark _))) (fun _ _ _ _ _ => (pe_dget (hu_of hr) (pv 1) (pv 12) (fun _ _ => rfl)))))
      (pss_one (ps_ret (pe_callB (k_all (K := K) rfl) (by rfl) T.m_all (by decide +kernel) (pa_cons (pe_lc (own := [("colour", 11)]) (g := gName 11) rfl sc_u_lane_repeats.nd (k_pi_list (K := K) (pe_op op_cat (pv 2) (pv 9))) (blkOk_by (by rfl)) (fun _ _ _ _ _ => (pg_name (i := 11) sc_u_lane_repeats.nd rfl (Or.inl rfl))) (fun _ _ _ _ _ => pts_nil) (fun _ _ _ _ _ => (pe_cmpR op_eq (pv 11) (pv 6) (nomark _)))) pa_nil))))))))), ?_⟩
    walk_at "st"
    intro ys p pm pw np
    have ly : ys.length = ks.length := pm.length_eq
    have hp : (upd H p (.lst (ys.map V.int))) p = some (.lst (ys.map V.int)) := upd_same
    have s1 : Same H (upd H p (.lst (ys.map V.int))) := Same.new np
    generalize hH1 : upd H p (.lst (ys.map V.int)) = H1 at hp s1
    have hSp := SqL.of (K := K) hp
    walk_at "st"
    intro p2 np2
    have e2 : cutV (ys.map V.int) (some 1) none = (ys.drop 1).map V.int := by
      rw [List.map_drop]
      exact cutV1 _
    rw [e2]
    have s2 : Same H1 (upd H1 p2 (.lst ((ys.drop 1).map V.int))) := Same.new np2
    have hp2 : (upd H1 p2 (.lst ((ys.drop 1).map V.int))) p2 = some (.lst ((ys.drop 1).map V.int)) := upd_same
    have hp1 := s2 _ _ hp
    have s02 := Same.trans s1 s2
    generalize hH2 : upd H1 p2 (.lst ((ys.drop 1).map V.int)) = H2 at *
    have hS1 := SqL.of (K := K) hp1
    have hS2 := SqL.of (K := K) hp2
    have sty : ys.Pairwise (· < ·) := by
      have ndy := pm.nodup_iff.mpr nd
      refine (List.pairwise_iff_getElem.mpr fun i j hi hj l => ?_)
      have a := (List.pairwise_iff_getElem.mp pw) i j hi hj l
      have b := (List.pairwise_iff_getElem.mp ndy) i j hi hj l
      omega
    have mem : ∀ k, k ∈ ys ↔ k ∈ ks := fun k => pm.mem_iff
    obtain ⟨n, hn⟩ : ∃ n, ys.length = n + 1 := ⟨ys.length - 1, by
      have : 0 < ks.length := List.length_pos_iff.mpr ne
      omega⟩
    obtain ⟨z, hz⟩ : ∃ z, ys[n]? = some z := ⟨_, List.getElem?_eq_getElem (by omega)⟩
    have li := lane_iff (rd := rd) (pt := pt) (cl := cl) mem sty hn hz
    walk_at "st"
    refine .inl ⟨hS1, hS2, ?_⟩
    have ld : (ys.drop 1).length = n := by rw [List.length_drop]; omega
    refine for_zipS (by rw [List.length_map, List.length_map, ld]; omega) (fun i σ H' => Ok (∃ y4 y5 y6 y7 : Option V, σ = [some (.ref va), some (.ref ca), some (.ref oa), some (.ref p), y4, y5, y6, y7, none, none, none, none, none] ∧ Same H2 H' ∧ ∀ j a b, j < i → ys[j]? = some a → ys[j + 1]? = some b → pt b = rd a ∧ ∀ x, a < x → x < b → cl x = rd a))
      ⟨_, _, _, _, rfl, Same.refl _, fun _ _ _ h => absurd h (Nat.not_lt_zero _)⟩ (fun i σ H' ⟨_, _, _, _, _, sm, _⟩ => ⟨SqL.of (sm _ _ hp1), SqL.of (sm _ _ hp2)⟩) ?_ ?_
    · rintro i x y T2 σ H' hx hy ⟨y4, y5, y6, y7, rfl, sm, good⟩ nT
      rw [List.getElem?_map] at hx hy
      rw [List.getElem?_drop] at hy
      obtain ⟨a, ha, rfl⟩ := Option.map_eq_some_iff.mp hx
      obtain ⟨b, hb, rfl⟩ := Option.map_eq_some_iff.mp hy
      have hb : ys[i + 1]? = some b := by rw [Nat.add_comm]; exact hb
      have ab := pw_get sty ha hb (Nat.lt_succ_self i)
      have ak := (mem a).mp (List.mem_of_getElem? ha)
      have bk := (mem b).mp (List.mem_of_getElem? hb)
      have wd := wid a ak b bk
      have ba := bdk a ak
      have bb := bdk b bk
      have s3 : Same H' (upd H' T2 (.tup [.int a, .int b])) := Same.new nT
      have hT : (upd H' T2 (.tup [.int a, .int b])) T2 = some (.tup [.int a, .int b]) := upd_same
      generalize hH3 : upd H' T2 (.tup [.int a, .int b]) = H3 at *
      have s23 := Same.trans sm s3
      have s03 := Same.trans s02 s23
      have hva3 := s03 _ _ hva
      have hca3 := s03 _ _ hca
      have hoa3 := SqL.of (K := K) (s03 _ _ hoa)
      obtain ⟨ta, eta, hta⟩ := hvis a ak
      obtain ⟨tb, etb, htb⟩ := hvis b bk
      have hta3 := SqT.of (K := K) (s03 _ _ hta)
      have htb3 := SqT.of (K := K) (s03 _ _ htb)
      have hT3 := SqT.of (K := K) hT
      have ga : DGet H3 va (.int a) (some (.ref ta)) := by
        have z := DGet.k (k := Sum.inl a) hva3
        rw [eta] at z
        exact z
      have gb : DGet H3 va (.int b) (some (.ref tb)) := by
        have z := DGet.k (k := Sum.inl b) hva3
        rw [etb] at z
        exact z
      walk_at "st"
      refine ite2 (fun e => ?_) (fun e => ?_)
      · have e : pt b ≠ rd a := by simpa using e
        refine q false _ (⟨(fun h => absurd h Bool.false_ne_true), (fun h => ?_)⟩ : _ ↔ _) s03
        exact absurd ((li.mp h).1 i a b ha hb).1 e
      · have e : pt b = rd a := Classical.byContradiction fun h => e (by simpa using h)
        walk_at "st"
        intro A nA
        have nAH : H A = none := Same.back s03 nA
        refine lc_range (lo := a + 1) (n := (b - (a + 1)).toNat) (fun j H' => Ok (Same H3 H' ∧ H' A = some (.lst (((List.range j).map fun k : Nat => cl (a + 1 + (k : Int))).map V.int)))) ⟨Same.new nA, upd_same⟩ ?_ ?_
        · rintro j H4 hj ⟨s4, hA⟩
          have s04 := Same.trans s03 s4
          have g4 : DGet H4 ca (.int (a + 1 + (j : Int))) ((lkI cs (a + 1 + (j : Int))).map V.int) := by
            have z := DGet.k (k := Sum.inl (a + 1 + (j : Int))) (s04 _ _ hca)
            rw [colK_val] at z
            exact z
          have d4 : IsD H4 ca := .inl ⟨_, .inl (s04 _ _ hca)⟩
          have o4 := SqL.of (K := K) (s04 _ _ hoa)
          have m4 : atI [V.int 0] ((a + 1 + (j : Int)) % (([V.int 0] : List V).length : Int)) = some (.int 0) := by
            rw [show (a + 1 + (j : Int)) % (([V.int 0] : List V).length : Int) = 0 from Int.emod_one _]
            rfl
          have hsz : (((List.range j).map fun k : Nat => cl (a + 1 + (k : Int))).map V.int).length < sizeLine := by
            rw [List.length_map, List.length_map, List.length_range]
            exact Nat.lt_of_lt_of_le (show j < 5000 by omega) (by decide)
          walk_at "st"
          refine ⟨Same.fresh s4 nA, ?_⟩
          have ev : ((lkI cs (a + 1 + (j : Int))).map V.int).getD (V.int 0) = V.int (cl (a + 1 + (j : Int))) := by
            rw [hcl]
            cases lkI cs (a + 1 + (j : Int)) <;> rfl
          rw [upd_same, ev, List.range_succ, List.map_append, List.map_append]
          rfl
        · rintro H4 ⟨s4, hA⟩
          have s04 := Same.trans s03 s4
          have hSA := SqL.of (K := K) hA
          have s24 := Same.trans s23 s4
          walk_at "st"
          intro C nC
          refine lc_it (walk_list (K := K) (a := A) (xs := ((List.range (b - (a + 1)).toNat).map fun k : Nat => cl (a + 1 + (k : Int))).map V.int)) (fun j H5 => Ok (Same H4 H5 ∧ H5 C = some (.lst ((((List.range j).map fun k : Nat => cl (a + 1 + (k : Int))).map fun c => !decide (c = rd a)).map V.bl)))) ⟨Same.new nC, upd_same⟩ (fun j H5 _ ⟨s5, _⟩ => SqL.of (s5 _ _ hA)) ?_ ?_
          · rintro j x H5 H6 hj ⟨s5, hC⟩ ⟨rfl, hx⟩
            rw [List.length_map, List.length_map, List.length_range] at hj
            have ex : x = V.int (cl (a + 1 + (j : Int))) := by
              rw [List.getElem?_map, List.getElem?_map, List.getElem?_range hj] at hx
              exact (Option.some.inj hx).symm
            subst ex
            have hsz : ((((List.range j).map fun k : Nat => cl (a + 1 + (k : Int))).map fun c => !decide (c = rd a)).map V.bl).length < sizeLine := by
              rw [List.length_map, List.length_map, List.length_map, List.length_range]
              exact Nat.lt_of_lt_of_le (show j < 5000 by omega) (by decide)
            walk_at "st"
            refine ⟨Same.fresh s5 nC, ?_⟩
            have ed : decide (V.int (cl (a + 1 + (j : Int))) = V.int (rd a)) = decide (cl (a + 1 + (j : Int)) = rd a) := by simp
            rw [upd_same, ed, List.range_succ, List.map_append, List.map_append, List.map_append]
            rfl
          · rintro H5 ⟨s5, hC⟩
            have hSC := SqL.of (K := K) hC
            rw [List.length_map, List.length_map, List.length_range] at hSC
            have s25 := Same.trans s24 s5
            have anyI : ((((List.range (b - (a + 1)).toNat).map fun k : Nat => cl (a + 1 + (k : Int))).map fun c => !decide (c = rd a)).any id) = true ↔ ¬ ∀ x, a < x → x < b → cl x = rd a := by
              rw [List.any_eq_true]
              constructor
              · rintro ⟨t, ht, et⟩ h
                obtain ⟨c, hc, rfl⟩ := List.mem_map.mp ht
                obtain ⟨k, hk, rfl⟩ := List.mem_map.mp hc
                have hk := List.mem_range.mp hk
                have := h (a + 1 + (k : Int)) (by omega) (by omega)
                rw [this] at et
                simp at et
              · intro h
                obtain ⟨x, hx⟩ := Classical.not_forall.mp h
                obtain ⟨h1, hx⟩ := Classical.not_imp.mp hx
                obtain ⟨h2, hx⟩ := Classical.not_imp.mp hx
                refine ⟨_, List.mem_map.mpr ⟨_, List.mem_map.mpr ⟨(x - (a + 1)).toNat, List.mem_range.mpr (by omega), rfl⟩, rfl⟩, ?_⟩
                rw [show a + 1 + (((x - (a + 1)).toNat : Nat) : Int) = x by omega]
                simpa using hx
            walk_at "st"
            refine ite2 (fun e2 => ?_) (fun e2 => ?_)
            · have e2 := anyI.mp e2
              refine q false _ (⟨(fun h => absurd h Bool.false_ne_true), (fun h => ?_)⟩ : _ ↔ _) (Same.trans s02 s25)
              exact absurd ((li.mp h).1 i a b ha hb).2 e2
            · have e2 : ∀ x, a < x → x < b → cl x = rd a := Classical.byContradiction fun h => e2 (anyI.mpr h)
              refine ⟨_, _, _, _, rfl, s25, fun j a' b' hj ha' hb' => ?_⟩
              rcases Nat.lt_or_ge j i with c | c
              · exact good j a' b' c ha' hb'
              · have : j = i := by omega
                subst this
                rw [ha] at ha'
                rw [hb] at hb'
                have ea := Option.some.inj ha'
                have eb := Option.some.inj hb'
                subst ea
                subst eb
                exact ⟨e, e2⟩
    · rintro σ H' ⟨y4, y5, y6, y7, rfl, sm, good⟩
      rw [List.length_map, ld] at good
      have s03 := Same.trans s02 sm
      have hp3 := SqL.of (K := K) (sm _ _ hp1)
      have hva3 := s03 _ _ hva
      have hca3 := s03 _ _ hca
      have zk := (mem z).mp (List.mem_of_getElem? hz)
      obtain ⟨tz, etz, htz⟩ := hvis z zk
      have htz3 := SqT.of (K := K) (s03 _ _ htz)
      have gz : DGet H' va (.int z) (some (.ref tz)) := by
        have y := DGet.k (k := Sum.inl z) hva3
        rw [etz] at y
        exact y
      have hlast : atI (ys.map V.int) (-1) = some (.int z) := by
        have e : ixN (ys.map V.int).length (-1) = some n := by
          unfold ixN
          rw [if_neg (by decide), List.length_map, hn, if_pos (by omega)]
          congr 1
          omega
        unfold atI
        rw [e]
        show (ys.map V.int)[n]? = _
        rw [List.getElem?_map, hz]
        rfl
      walk_at "st"
      intro od
      have fD : (upd H' ca (.frz od (.dK (colK cs)))) ca = some (.frz od (.dK (colK cs))) := upd_same
      have kF : ∀ b o, b ≠ ca → H' b = some o → (upd H' ca (.frz od (.dK (colK cs)))) b = some o := fun b o hb h => by
        rw [upd_ne hb]
        exact h
      generalize hHf : upd H' ca (.frz od (.dK (colK cs))) = Hf at *
      have hva4 : Hf va = some (.dK kvs) ∨ va = ca := by
        by_cases hb : va = ca
        · exact .inr hb
        · exact .inl (kF _ _ hb hva3)
      walk_at "st"
      refine .inl ⟨colK cs, fD, ?_⟩
      intro B nB
      have nBc : B ≠ ca := fun h => by
        rw [h, fD] at nB
        cases nB
      refine lc_it (walk_keys (d := ca) (o := od) (kvs := colK cs)) (fun j H5 => Ok (Same Hf H5 ∧ H5 B = some (.lst ((((cs.take j).filter fun e => decide (z < e.1)).map (·.2)).map V.int)))) ⟨Same.new nB, upd_same⟩ (fun j H5 _ ⟨s5, _⟩ => s5 _ _ fD) ?_ ?_
      · rintro j x H5 H6 hj ⟨s5, hB⟩ ⟨rfl, k, v, hk, rfl⟩
        have hj : j < cs.length := by
          unfold colK at hj
          rw [List.length_map] at hj
          exact hj
        have ej : cs[j]? = some cs[j] := List.getElem?_eq_getElem hj
        have hmem := List.getElem_mem hj
        have tk1 := take_more ej
        unfold colK at hk
        rw [List.getElem?_map, ej] at hk
        have hk := Option.some.inj hk
        generalize cs[j] = e at *
        obtain ⟨rfl, rfl⟩ := Prod.mk.inj hk
        have g6 : DGet H6 ca (.int e.1) (some (.int e.2)) := .inl ⟨colK cs, Sum.inl e.1, .inr ⟨od, s5 _ _ fD⟩, rfl, by rw [colK_val, mem_lkI ndc (show (e.1, e.2) ∈ cs from hmem)]; rfl⟩
        have hsz : ((((cs.take j).filter fun e => decide (z < e.1)).map (·.2)).map V.int).length < sizeLine := by
          rw [List.length_map, List.length_map]
          have h1 := List.length_filter_le (fun e : Int × Int => decide (z < e.1)) (cs.take j)
          have h2 := List.length_take_le j cs
          exact Nat.lt_of_lt_of_le (show _ < 5000 by omega) (by decide)
        have fl : (cs.take (j + 1)).filter (fun e => decide (z < e.1)) = (cs.take j).filter (fun e => decide (z < e.1)) ++ (if z < e.1 then [e] else []) := by
          rw [tk1, List.filter_append]
          by_cases h : z < e.1
          · rw [if_pos h, List.filter_cons_of_pos (by simpa using h), List.filter_nil]
          · rw [if_neg h, List.filter_cons_of_neg (by simpa using h), List.filter_nil]
        walk_at "st"
        refine ite2 (fun c => ?_) (fun c => ?_)
        · have c := of_decide_eq_true c
          rw [if_pos c] at fl
          walk_at "st"
          refine ⟨Same.fresh s5 nB, ?_⟩
          rw [upd_same, fl, List.map_append, List.map_append]
          rfl
        · have c : ¬ z < e.1 := fun h => c (decide_eq_true h)
          rw [if_neg c, List.append_nil] at fl
          refine ⟨s5, ?_⟩
          rw [fl]
          exact hB
      · rintro H5 ⟨s5, hB⟩
        rw [show (colK cs).length = cs.length from List.length_map _, List.take_length] at hB
        have f5 := s5 _ _ fD
        have sU : Same H' (upd H5 ca (.dK (colK cs))) := fun b o hb => by
          by_cases h : b = ca
          · rw [h] at hb ⊢
            rw [upd_same, ← hca3]
            exact hb
          · rw [upd_ne h]
            exact s5 _ _ (kF b o h hb)
        have hB2 : (upd H5 ca (.dK (colK cs))) B = some (.lst (((cs.filter fun e => decide (z < e.1)).map (·.2)).map V.int)) := by
          rw [upd_ne nBc]
          exact hB
        have ho2 := SqL.of (K := K) (sU _ _ (s03 _ _ hoa))
        have sU0 := Same.trans s03 sU
        have bsz : ([V.int 0].length + ((((cs.filter fun e => decide (z < e.1)).map (·.2)).map V.int)).length) ≤ sizeLine := by
          rw [List.length_map, List.length_map]
          have h1 := List.length_filter_le (fun e : Int × Int => decide (z < e.1)) cs
          exact Nat.le_trans (show _ ≤ 5000 by show 1 + _ ≤ 5000; omega) (by decide)
        have hSB := SqL.of (K := K) hB2
        walk_at "st"
        intro G nG
        have el : [V.int 0] ++ ((cs.filter fun e => decide (z < e.1)).map (·.2)).map V.int = ((0 : Int) :: (cs.filter fun e => decide (z < e.1)).map (·.2)).map V.int := rfl
        rw [el]
        generalize hls : (0 : Int) :: (cs.filter fun e => decide (z < e.1)).map (·.2) = ls
        have lls : ls.length ≤ 5000 := by
          rw [← hls, List.length_cons, List.length_map]
          have h1 := List.length_filter_le (fun e : Int × Int => decide (z < e.1)) cs
          omega
        have sG : Same (upd H5 ca (.dK (colK cs))) (upd (upd H5 ca (.dK (colK cs))) G (.lst (ls.map V.int))) := Same.new nG
        have hG : (upd (upd H5 ca (.dK (colK cs))) G (.lst (ls.map V.int))) G = some (.lst (ls.map V.int)) := upd_same
        generalize hHG : upd (upd H5 ca (.dK (colK cs))) G (.lst (ls.map V.int)) = HG at *
        have hSG := SqL.of (K := K) hG
        have sG0 := Same.trans sU0 sG
        walk_at "st"
        intro C nC
        refine lc_it (walk_list (K := K) (a := G) (xs := ls.map V.int)) (fun j H7 => Ok (Same HG H7 ∧ H7 C = some (.lst (((ls.take j).map fun c => decide (c = rd z)).map V.bl)))) ⟨Same.new nC, upd_same⟩ (fun j H7 _ ⟨s7, _⟩ => SqL.of (s7 _ _ hG)) ?_ ?_
        · rintro j x H7 H8 hj ⟨s7, hC⟩ ⟨rfl, hx⟩
          rw [List.length_map] at hj
          have ej : ls[j]? = some ls[j] := List.getElem?_eq_getElem hj
          have tk1 := take_more ej
          rw [List.getElem?_map, ej] at hx
          obtain rfl := (Option.some.inj hx).symm
          generalize ls[j] = c at *
          have hsz : (((ls.take j).map fun c => decide (c = rd z)).map V.bl).length < sizeLine := by
            rw [List.length_map, List.length_map]
            have h2 := List.length_take_le j ls
            exact Nat.lt_of_lt_of_le (show _ < 5001 by omega) (by decide)
          walk_at "st"
          refine ⟨Same.fresh s7 nC, ?_⟩
          have ed : decide (V.int c = V.int (rd z)) = decide (c = rd z) := by simp
          rw [upd_same, ed, tk1, List.map_append, List.map_append]
          rfl
        · rintro H7 ⟨s7, hC⟩
          rw [List.length_map, List.take_length] at hC
          have hSC := SqL.of (K := K) hC
          have allI : ((ls.map fun c => decide (c = rd z)).all id) = true ↔ rd z = 0 ∧ ∀ j, z < j → cl j = 0 := by
            rw [List.all_eq_true]
            constructor
            · intro h
              have h' : ∀ c ∈ ls, c = rd z := fun c hc => by simpa using h _ (List.mem_map.mpr ⟨c, hc, rfl⟩)
              have h0 : (0 : Int) = rd z := h' 0 (by rw [← hls]; exact List.mem_cons_self)
              refine ⟨h0.symm, fun j hj => ?_⟩
              rw [hcl]
              cases e : lkI cs j with
              | none => rfl
              | some c =>
                have hm := lkI_mem e
                have := h' c (by rw [← hls]; exact List.mem_cons_of_mem _ (List.mem_map.mpr ⟨_, List.mem_filter.mpr ⟨hm, by simpa using hj⟩, rfl⟩))
                show c = 0
                omega
            · rintro ⟨h1, h2⟩ t ht
              obtain ⟨c, hc, rfl⟩ := List.mem_map.mp ht
              rw [← hls] at hc
              rcases List.mem_cons.mp hc with rfl | hc
              · simp [h1]
              · obtain ⟨e, he, rfl⟩ := List.mem_map.mp hc
                obtain ⟨he1, he2⟩ := List.mem_filter.mp he
                have := h2 e.1 (by simpa using he2)
                rw [hcl, mem_lkI ndc (show (e.1, e.2) ∈ cs from he1)] at this
                have this : e.2 = 0 := this
                simp [h1, this]
          walk_at "st"
          refine q _ _ ?_ (Same.trans sG0 s7)
          rw [allI, li]
          exact ⟨fun h => ⟨fun i a b ha hb => good i a b (by
            obtain ⟨l, _⟩ := List.getElem?_eq_some_iff.mp hb
            omega) ha hb, h⟩, fun h => h.2⟩
end

/-! ### what a round's visits say, place by place -/
abbrev Vis := List (Pt × Int × Int)
def visP (L : Vis) : List Pt := L.map (·.1)
def frd (L : Vis) (q : Pt) : Int := ((L.find? fun e => decide (e.1 = q)).map (·.2.1)).getD 0
def lpt (L : Vis) (q : Pt) : Int := ((L.reverse.find? fun e => decide (e.1 = q)).map (·.2.2)).getD 0
theorem frd_app {L : Vis} {e : Pt × Int × Int} {q : Pt} : frd (L ++ [e]) q = if q ∈ visP L then frd L q else if e.1 = q then e.2.1 else 0 := by
  unfold frd
  rw [List.find?_append]
  by_cases h : q ∈ visP L
  · rw [if_pos h]
    obtain ⟨x, hx, rfl⟩ := List.mem_map.mp h
    cases e2 : L.find? (fun e => decide (e.1 = x.1)) with
    | none => exact absurd (List.find?_eq_none.mp e2 x hx) (by simp)
    | some y => rfl
  · rw [if_neg h, List.find?_eq_none.mpr fun x hx => by
      have : ¬ x.1 = q := fun z => h (List.mem_map.mpr ⟨x, hx, z⟩)
      simpa using this]
    by_cases g : e.1 = q
    · rw [if_pos g, List.find?_cons_of_pos (by simpa using g)]
      rfl
    · rw [if_neg g, List.find?_cons_of_neg (by simpa using g)]
      rfl
theorem lpt_app {L : Vis} {e : Pt × Int × Int} {q : Pt} : lpt (L ++ [e]) q = if e.1 = q then e.2.2 else lpt L q := by
  unfold lpt
  rw [List.reverse_append]
  show ((List.find? _ (e :: L.reverse)).map (·.2.2)).getD 0 = _
  by_cases g : e.1 = q
  · rw [if_pos g, List.find?_cons_of_pos (by simpa using g)]
    rfl
  · rw [if_neg g, List.find?_cons_of_neg (by simpa using g)]
theorem visP_app {L : Vis} {e : Pt × Int × Int} {q : Pt} : q ∈ visP (L ++ [e]) ↔ q ∈ visP L ∨ q = e.1 := by
  unfold visP
  rw [List.map_append, List.mem_append, List.map_singleton, List.mem_singleton]
theorem alo_lan {m : Pt} (h : m ≠ (0, 0)) (p : Pt) : alo (lan p m) m = 0 := by
  have e := alo_mvk h (lan p m) (alo p m)
  rw [lan_back] at e
  omega
theorem lan_lan {m : Pt} (h : m ≠ (0, 0)) (p : Pt) : lan (lan p m) m = lan p m := by
  have e := lan_mvk h (lan p m) (alo p m)
  rw [lan_back] at e
  exact e.symm
theorem mvk_inj {m : Pt} (h : m ≠ (0, 0)) {p : Pt} {a b : Int} (e : mvk p m a = mvk p m b) : a = b := by
  have x := congrArg (fun q => alo q m) e
  simp only [alo_mvk h] at x
  omega
/-- a street goes on for ever: behind each visited place, along the move, lies what is wanted -/
def StreetOk (L : Vis) (f : Pt → Int) (m : Pt) : Prop := ∀ q ∈ visP L, (∃ k : Int, 0 < k ∧ mvk q m k ∈ visP L ∧ lpt L (mvk q m k) = frd L q ∧ ∀ j, 0 < j → j < k → mvk q m j ∉ visP L ∧ f (mvk q m j) = frd L q) ∨ (frd L q = 0 ∧ ∀ j, 0 < j → mvk q m j ∉ visP L ∧ f (mvk q m j) = 0)
theorem lanes_iff {L : Vis} {f : Pt → Int} {m : Pt} (hm : m ≠ (0, 0)) {lk : List Pt} {kl : Pt → List Int} (hl : ∀ l, l ∈ lk ↔ ∃ e ∈ L, lan e.1 m = l) (hk : ∀ l ∈ lk, ∀ k, k ∈ kl l ↔ mvk l m k ∈ visP L) :
    (∀ l ∈ lk, LaneOk (kl l) (fun k => frd L (mvk l m k)) (fun k => lpt L (mvk l m k)) (fun k => f (mvk l m k))) ↔ StreetOk L f m := by
  constructor
  · intro h q hq
    obtain ⟨e, he, rfl⟩ := List.mem_map.mp hq
    have hl1 : lan e.1 m ∈ lk := (hl _).mpr ⟨e, he, rfl⟩
    have hb := lan_back e.1 m
    have kk : ∀ j, mvk (lan e.1 m) m (alo e.1 m + j) = mvk e.1 m j := fun j => by rw [← mvk_add, hb]
    have in0 : alo e.1 m ∈ kl (lan e.1 m) := (hk _ hl1 _).mpr (by rw [hb]; exact hq)
    rcases h _ hl1 _ in0 with ⟨k', hk', l1, least, hp, hc⟩ | ⟨top, h0, hc⟩
    · refine .inl ⟨k' - alo e.1 m, by omega, ?_, ?_, fun j h1 h2 => ⟨fun hv => ?_, ?_⟩⟩
      · have := (hk _ hl1 _).mp hk'
        rw [← kk, show alo e.1 m + (k' - alo e.1 m) = k' by omega]
        exact this
      · rw [← kk, show alo e.1 m + (k' - alo e.1 m) = k' by omega]
        have hp : lpt L (mvk (lan e.1 m) m k') = frd L (mvk (lan e.1 m) m (alo e.1 m)) := hp
        rw [hb] at hp
        exact hp
      · rw [← kk] at hv
        have := least _ ((hk _ hl1 _).mpr hv) (by omega)
        omega
      · have this : f (mvk (lan e.1 m) m (alo e.1 m + j)) = frd L (mvk (lan e.1 m) m (alo e.1 m)) := hc (alo e.1 m + j) (by omega) (by omega)
        rw [hb, kk] at this
        exact this
    · have h0 : frd L (mvk (lan e.1 m) m (alo e.1 m)) = 0 := h0
      rw [hb] at h0
      refine .inr ⟨h0, fun j h1 => ⟨fun hv => ?_, ?_⟩⟩
      · rw [← kk] at hv
        have := top _ ((hk _ hl1 _).mpr hv)
        omega
      · have this : f (mvk (lan e.1 m) m (alo e.1 m + j)) = 0 := hc (alo e.1 m + j) (by omega)
        rw [kk] at this
        exact this
  · intro h l hl1 k hk1
    have hv := (hk l hl1 k).mp hk1
    have kk : ∀ j, mvk l m (k + j) = mvk (mvk l m k) m j := fun j => by rw [mvk_add]
    rcases h _ hv with ⟨j, h0, hv2, hp, hc⟩ | ⟨h0, hc⟩
    · refine .inl ⟨k + j, (hk l hl1 _).mpr (by rw [kk]; exact hv2), by omega, fun k'' hk'' l2 => ?_, by show lpt L (mvk l m (k + j)) = _; rw [kk]; exact hp, fun j2 h1 h2 => ?_⟩
      · apply Classical.byContradiction
        intro c
        have := (hc (k'' - k) (by omega) (by omega)).1
        rw [← kk, show k + (k'' - k) = k'' by omega] at this
        exact this ((hk l hl1 _).mp hk'')
      · have := (hc (j2 - k) (by omega) (by omega)).2
        rw [← kk, show k + (j2 - k) = j2 by omega] at this
        exact this
    · refine .inr ⟨fun k' hk' => ?_, h0, fun j h1 => ?_⟩
      · apply Classical.byContradiction
        intro c
        have := (hc (k' - k) (by omega)).1
        rw [← kk, show k + (k' - k) = k' by omega] at this
        exact this ((hk l hl1 _).mp hk')
      · have := (hc (j - k) (by omega)).2
        rw [← kk, show k + (j - k) = j by omega] at this
        exact this
theorem keys_putK {κ : Type} [DecidableEq κ] (kvs : List (κ × V)) (k : κ) (v : V) : (putK kvs k v).map (·.1) = if k ∈ kvs.map (·.1) then kvs.map (·.1) else kvs.map (·.1) ++ [k] := by
  unfold putK
  by_cases h : k ∈ kvs.map (·.1)
  · rw [if_pos h, if_pos, List.map_map]
    · refine List.map_congr_left fun e _ => ?_
      show (if e.1 = k then (e.1, v) else e).1 = e.1
      split <;> rfl
    · obtain ⟨e, he, rfl⟩ := List.mem_map.mp h
      exact List.any_eq_true.mpr ⟨e, he, by simp⟩
  · rw [if_neg h, if_neg, List.map_append]
    · rfl
    · intro z
      obtain ⟨e, he, e2⟩ := List.any_eq_true.mp z
      exact h (List.mem_map.mpr ⟨e, he, by simpa using e2⟩)
theorem valV_none {κ : Type} [DecidableEq κ] {kvs : List (κ × V)} {k : κ} : valV kvs k = none ↔ k ∉ kvs.map (·.1) := by
  unfold valV
  rw [Option.map_eq_none_iff, List.find?_eq_none]
  constructor
  · intro h z
    obtain ⟨e, he, rfl⟩ := List.mem_map.mp z
    exact absurd (h e he) (by simp)
  · intro h e he
    have : ¬ e.1 = k := fun z => h (List.mem_map.mpr ⟨e, he, z⟩)
    simpa using this

/-! ### the visits of all lanes, laid -/
structure LVis (H : Hp) (D : Addr) (m : Pt) (L : Vis) (lk : List Pt) (vs : Pt → Addr) (kl : Pt → List Int) : Prop where
  dc : H D = some (.dT (lk.map fun l => (ptK l, V.ref (vs l))))
  nd : lk.Nodup
  inj : ∀ l ∈ lk, ∀ l' ∈ lk, vs l = vs l' → l = l'
  ne : ∀ l ∈ lk, vs l ≠ D
  vis : ∀ l ∈ lk, VisD H (vs l) (kl l) (fun k => frd L (mvk l m k)) (fun k => lpt L (mvk l m k))
  ks : ∀ l ∈ lk, ∀ k, k ∈ kl l ↔ mvk l m k ∈ visP L
  len : ∀ l ∈ lk, (kl l).length ≤ L.length
  rep : ∀ l ∈ lk, lan l m = l
theorem ptK_ninj {κ : Type} {lk : List Pt} {f : Pt → κ} {l : Pt} : ptK l ∈ (lk.map fun l => (ptK l, f l)).map (·.1) ↔ l ∈ lk := by
  rw [List.map_map, List.mem_map]
  constructor
  · rintro ⟨x, hx, e⟩
    rw [← ptK_inj (show ptK x = ptK l from e)]
    exact hx
  · intro h
    exact ⟨l, h, rfl⟩
theorem lk_val {lk : List Pt} {vs : Pt → Addr} : ∀ l ∈ lk, valV (lk.map fun l => (ptK l, V.ref (vs l))) (ptK l) = some (.ref (vs l)) := by
  induction lk with
  | nil => exact fun l h => absurd h List.not_mem_nil
  | cons x r ih =>
    intro l hl
    by_cases e : x = l
    · subst e
      exact valV_pos (p := (ptK x, V.ref (vs x))) rfl
    · refine (valV_neg (p := (ptK x, V.ref (vs x))) (fun z => e (ptK_inj z))).trans (ih l ?_)
      rcases List.mem_cons.mp hl with h | h
      · exact absurd h.symm e
      · exact h
theorem VisD.same {H H' : Hp} {a : Addr} {ks : List Int} {rd pt : Int → Int} (h : VisD H a ks rd pt) (k : ∀ b o, H b = some o → (b = a ∨ ∃ xs, o = .tup xs) → H' b = some o) : VisD H' a ks rd pt := by
  obtain ⟨kvs, h1, h2, h3, h4⟩ := h
  refine ⟨kvs, k _ _ h1 (.inl rfl), h2, h3, fun x hx => ?_⟩
  obtain ⟨t, e1, e2⟩ := h4 x hx
  exact ⟨t, e1, k _ _ e2 (.inr ⟨_, rfl⟩)⟩
theorem LVis.same {H H' : Hp} {D : Addr} {m : Pt} {L : Vis} {lk : List Pt} {vs : Pt → Addr} {kl : Pt → List Int} (h : LVis H D m L lk vs kl) (s : Same H H') : LVis H' D m L lk vs kl :=
  ⟨s _ _ h.dc, h.nd, h.inj, h.ne, fun l hl => (h.vis l hl).same fun b o e _ => s _ _ e, h.ks, h.len, h.rep⟩
theorem LVis.add {H : Hp} {D x : Addr} {m l : Pt} {L : Vis} {lk : List Pt} {vs : Pt → Addr} {kl : Pt → List Int} (h : LVis H D m L lk vs kl) (nl : l ∉ lk) (hx : H x = some (.dK [])) (xD : x ≠ D) (xv : ∀ l' ∈ lk, vs l' ≠ x) (rl : lan l m = l) (no : ∀ k, mvk l m k ∉ visP L) :
    LVis (upd H D (.dT (putK (lk.map fun l => (ptK l, V.ref (vs l))) (ptK l) (.ref x)))) D m L (lk ++ [l]) (fun y => if y = l then x else vs y) (fun y => if y = l then [] else kl y) := by
  have nin : valV (lk.map fun l => (ptK l, V.ref (vs l))) (ptK l) = none := valV_none.mpr fun z => nl (ptK_ninj.mp z)
  have ne : ∀ y ∈ lk, ¬ y = l := fun y hy z => nl (z ▸ hy)
  have cs : ∀ {y}, y ∈ lk ++ [l] → y ∈ lk ∨ y = l := fun hy => by
    rcases List.mem_append.mp hy with h | h
    · exact .inl h
    · exact .inr (List.mem_singleton.mp h)
  refine ⟨?_, ?_, ?_, ?_, ?_, ?_, ?_, ?_⟩
  · rw [upd_same, putK_new _ nin, List.map_append]
    congr 2
    congr 1
    · refine List.map_congr_left fun y hy => ?_
      rw [if_neg (ne y hy)]
    · show [(ptK l, V.ref x)] = [(ptK l, V.ref (if l = l then x else vs l))]
      rw [if_pos rfl]
  · refine List.nodup_append.mpr ⟨h.nd, (by simp), fun a ha b hb => ?_⟩
    rw [List.mem_singleton.mp hb]
    exact ne a ha
  · intro a ha b hb e
    rcases cs ha with ha2 | ea
    · rcases cs hb with hb2 | eb
      · rw [if_neg (ne a ha2), if_neg (ne b hb2)] at e
        exact h.inj a ha2 b hb2 e
      · rw [if_neg (ne a ha2), if_pos eb] at e
        exact absurd e (xv a ha2)
    · rcases cs hb with hb2 | eb
      · rw [if_pos ea, if_neg (ne b hb2)] at e
        exact absurd e.symm (xv b hb2)
      · rw [ea, eb]
  · intro a ha
    rcases cs ha with ha | rfl
    · rw [if_neg (ne a ha)]
      exact h.ne a ha
    · rw [if_pos rfl]
      exact xD
  · intro a ha
    rcases cs ha with ha | rfl
    · rw [if_neg (ne a ha), if_neg (ne a ha)]
      refine (h.vis a ha).same fun b o e c => ?_
      refine (upd_ne fun z => ?_).trans e
      rcases c with c | ⟨xs, c⟩
      · exact h.ne a ha (c.symm.trans z)
      · rw [z, h.dc, c] at e
        cases e
    · rw [if_pos rfl, if_pos rfl]
      exact ⟨[], (upd_ne xD).trans hx, rfl, List.nodup_nil, fun k hk => absurd hk List.not_mem_nil⟩
  · intro a ha k
    rcases cs ha with ha | rfl
    · rw [if_neg (ne a ha)]
      exact h.ks a ha k
    · rw [if_pos rfl]
      exact ⟨fun z => absurd z List.not_mem_nil, fun z => absurd z (no k)⟩
  · intro a ha
    rcases cs ha with ha | rfl
    · rw [if_neg (ne a ha)]
      exact h.len a ha
    · rw [if_pos rfl]
      exact Nat.zero_le _
  · intro a ha
    rcases cs ha with ha | rfl
    · exact h.rep a ha
    · exact rl
theorem LVis.put {H : Hp} {D p : Addr} {m : Pt} {L : Vis} {lk : List Pt} {vs : Pt → Addr} {kl : Pt → List Int} (hm : m ≠ (0, 0)) (h : LVis H D m L lk vs kl) (e : Pt × Int × Int) (hl : lan e.1 m ∈ lk) {kvs : List (Key × V)} (hv : H (vs (lan e.1 m)) = some (.dK kvs)) (hp : H p = some (.tup [.int (frd (L ++ [e]) e.1), .int e.2.2])) :
    LVis (upd H (vs (lan e.1 m)) (.dK (putK kvs (Sum.inl (alo e.1 m)) (.ref p)))) D m (L ++ [e]) lk vs (fun y => if y = lan e.1 m ∧ alo e.1 m ∉ kl y then kl y ++ [alo e.1 m] else kl y) := by
  have hb := lan_back e.1 m
  have other : ∀ l ∈ lk, l ≠ lan e.1 m → ∀ k, mvk l m k ≠ e.1 := fun l hl2 n k z => by
    have := lan_mvk hm l k
    rw [z, h.rep l hl2] at this
    exact n this.symm
  have otherk : ∀ k, mvk (lan e.1 m) m k = e.1 → k = alo e.1 m := fun k z => mvk_inj hm (z.trans hb.symm)
  refine ⟨(upd_ne (h.ne _ hl).symm).trans h.dc, h.nd, h.inj, h.ne, fun l hl2 => ?_, fun l hl2 k => ?_, fun l hl2 => ?_, h.rep⟩
  · by_cases q : l = lan e.1 m
    · rw [q]
      obtain ⟨kvs', h1, h2, h3, h4⟩ := h.vis _ hl
      rw [hv] at h1
      have e1 : kvs = kvs' := by
        injection h1 with h1
        injection h1
      subst e1
      have inK : ∀ x : Int, (Sum.inl x : Key) ∈ kvs.map (·.1) ↔ x ∈ kl (lan e.1 m) := fun x => by
        rw [h2, List.mem_map]
        constructor
        · rintro ⟨y, hy, z⟩
          rw [← Sum.inl.inj z]
          exact hy
        · intro hx
          exact ⟨x, hx, rfl⟩
      refine ⟨_, upd_same, ?_, ?_, fun k hk => ?_⟩
      · rw [keys_putK]
        by_cases c : alo e.1 m ∈ kl (lan e.1 m)
        · rw [if_pos ((inK _).mpr c), if_neg (fun z => z.2 c), h2]
        · rw [if_neg (fun z => c ((inK _).mp z)), if_pos ⟨rfl, c⟩, h2, List.map_append]
          rfl
      · by_cases c : alo e.1 m ∈ kl (lan e.1 m)
        · rw [if_neg (fun z => z.2 c)]
          exact h3
        · rw [if_pos ⟨rfl, c⟩]
          refine List.nodup_append.mpr ⟨h3, (by simp), fun a ha b hb2 z => ?_⟩
          rw [List.mem_singleton.mp hb2] at z
          exact c (z ▸ ha)
      · by_cases c : k = alo e.1 m
        · subst c
          refine ⟨p, ?_, ?_⟩
          · rw [valV_put, if_pos rfl]
          · rw [upd_ne (fun z => by rw [z, hv] at hp; cases hp), hp]
            show _ = some (HO.tup [.int (frd (L ++ [e]) (mvk (lan e.1 m) m (alo e.1 m))), .int (lpt (L ++ [e]) (mvk (lan e.1 m) m (alo e.1 m)))])
            rw [hb, lpt_app, if_pos rfl]
        · have hk2 : k ∈ kl (lan e.1 m) := by
            split at hk
            · rcases List.mem_append.mp hk with z | z
              · exact z
              · exact absurd (List.mem_singleton.mp z) c
            · exact hk
          obtain ⟨t, e1, e2⟩ := h4 k hk2
          have nq : ¬ e.1 = mvk (lan e.1 m) m k := fun z => c (otherk k z.symm)
          refine ⟨t, ?_, ?_⟩
          · rw [valV_put, if_neg (fun z => c (Sum.inl.inj z)), e1]
          · rw [upd_ne (fun z => by rw [z, hv] at e2; cases e2), e2]
            show _ = some (HO.tup [.int (frd (L ++ [e]) (mvk (lan e.1 m) m k)), .int (lpt (L ++ [e]) (mvk (lan e.1 m) m k))])
            rw [frd_app, if_pos ((h.ks _ hl k).mp hk2), lpt_app, if_neg nq]
    · rw [if_neg (fun z => q z.1)]
      have v := (h.vis l hl2).same (H' := upd H (vs (lan e.1 m)) (.dK (putK kvs (Sum.inl (alo e.1 m)) (.ref p)))) fun b o eb c => by
        refine (upd_ne fun z => ?_).trans eb
        rcases c with c | ⟨xs, c⟩
        · exact q (h.inj _ hl2 _ hl (c.symm.trans z))
        · rw [z, hv, c] at eb
          cases eb
      obtain ⟨kvs', h1, h2, h3, h4⟩ := v
      refine ⟨kvs', h1, h2, h3, fun k hk => ?_⟩
      obtain ⟨t, e1, e2⟩ := h4 k hk
      refine ⟨t, e1, ?_⟩
      have no := other l hl2 q k
      rw [e2]
      show _ = some (HO.tup [.int (frd (L ++ [e]) (mvk l m k)), .int (lpt (L ++ [e]) (mvk l m k))])
      rw [frd_app, if_pos ((h.ks l hl2 k).mp hk), lpt_app, if_neg (fun z => no z.symm)]
  · rw [visP_app]
    by_cases q : l = lan e.1 m
    · rw [q]
      by_cases c : alo e.1 m ∈ kl (lan e.1 m)
      · rw [if_neg (fun z => z.2 c), h.ks _ hl]
        constructor
        · exact .inl
        · rintro (z | z)
          · exact z
          · rw [otherk k z]
            exact (h.ks _ hl _).mp c
      · rw [if_pos ⟨rfl, c⟩, List.mem_append, h.ks _ hl, List.mem_singleton]
        constructor
        · rintro (z | z)
          · exact .inl z
          · rw [z]
            exact .inr hb
        · rintro (z | z)
          · exact .inl z
          · exact .inr (otherk k z)
    · rw [if_neg (fun z => q z.1), h.ks l hl2]
      constructor
      · exact .inl
      · rintro (z | z)
        · exact z
        · exact absurd z (other l hl2 q k)
  · have := h.len l hl2
    rw [List.length_append]
    split
    · rw [List.length_append]
      show _ + 1 ≤ _ + 1
      omega
    · omega

/-! ### _lane_visits -/
def visL (L : List (Wk × Int × Int)) : Vis := L.map fun e => (wPt e.1, e.2)
def tl3D (e : Wk × Int × Int) : PyData := .tuple [wkD e.1, .int e.2.1, .int e.2.2]
def spLaneVis (K : PySem.W.Frag) : Sp := fun vs H Q _ => ∃ (la ma : Addr) (us : List V) (L : List (Wk × Int × Int)) (m : Pt), vs = [.ref la, .ref ma] ∧ H la = some (.lst us) ∧ TpAll K H us (L.map tl3D) ∧ SqT K H ma [.int m.1, .int m.2] ∧ m ≠ (0, 0) ∧ m.1.natAbs ≤ 3000 ∧ m.2.natAbs ≤ 3000 ∧ L.length ≤ 3000 ∧
  ∀ (D : Addr) (H' : Hp) (lk : List Pt) (vs : Pt → Addr) (kl : Pt → List Int), H D = none → (∀ l ∈ lk, H (vs l) = none) → LVis H' D m (visL L) lk vs kl → (∀ l, l ∈ lk ↔ ∃ e ∈ visL L, lan e.1 m = l) → lk.length ≤ L.length → Same H H' → Q (.ref D) H'
section
variable {P : Program} {w : World} {K : PySem.W.Frag} {mg : Str → Option Value} {base : Heap}
local macro_rules | `(tactic| walk_at "cl") => `(tactic| first | (refine le_only ?_; omega) | (refine lt_only ?_; omega) | assumption)
theorem ok_u_lane_visits (T : Txt K mg) (D : DefAt K mg "_lane_visits" s_u_lane_visits ["loop", "move"]) (C_lane_of : Cal P w K mg base CX0 "lane_of" 1 ["place", "move"] (spLaneOf K)) : Cal P w K mg base CX0 "_lane_visits" 2 ["loop", "move"] (spLaneVis K) := by
  refine D.cal sc_u_lane_visits (fun vs H Q E h => ?_) (fun f cdv A outer s H vs Q E hr h => ?_)
  · obtain ⟨la, ma, us, L, m, rfl, _⟩ := h
    rfl
  · obtain ⟨la, ma, us, L, m, rfl, hla, hus, hma, nz, b1, b2, lL, q⟩ := h
    refine ⟨_, (pss_cons (ps_set (i := 2) sc_u_lane_visits.nd rfl (Or.inl rfl) pe_dnewT)
      (pss_cons (ps_for PassesOwn.never rfl (k_pi_list (K := K) (pv 0)) (pg_tup (by rfl) (pgs_cons (pg_name (i := 3) sc_u_lane_visits.nd rfl (Or.inl rfl)) (pgs_cons (pg_name (i := 4) sc_u_lane_visits.nd rfl (Or.inl rfl)) (pgs_cons (pg_name (i := 5) sc_u_lane_visits.nd rfl (Or.inl rfl)) pgs_nil))))
      (pss_cons (ps_asg (pe_own C_lane_of hr (by first | decide | omega) (pa_cons (pe_slice (k_sl_tup (K := K)) (pv 3) po_none (po_some pe_int)) (pa_cons (pv 1) pa_nil))) (pg_tup (by rfl) (pgs_cons (pg_name (i := 6) sc_u_lane_visits.nd rfl (Or.inl rfl)) (pgs_cons (pg_name (i := 7) sc_u_lane_visits.nd rfl (Or.inl rfl)) pgs_nil))))
      (pss_cons (ps_set (i := 8) sc_u_lane_visits.nd rfl (Or.inl rfl) (pe_bm PySem.F.plainAttrs_dict PySem.F.slot_dict_setdefault PySem.F.type_dict_setdefault (mt_setdT (hu_of hr)) (pv 2) (pa_cons (pv 6) (pa_cons pe_dnewK pa_nil))))
      (pss_cons (ps_set (i := 9) sc_u_lane_visits.nd rfl (Or.inl rfl) (pe_ifExp (pt_cmp (pc_din (hu_of hr) (pv 7) (pv 8))) (pe_ix (k_ix_tup (K := K)) (pe_dget (hu_of hr) (pv 8) (pv 7) (fun _ _ => rfl)) pe_int (fun _ _ => rfl)) (pv 4)))
      (pss_one (ps_dput (hu_of hr) (pv 8) (pv 7) (pe_tup (pa_cons (pv 9) (pa_cons (pv 5) pa_nil))) (by rfl)))))))
      (pss_one (ps_ret (pv 2))))), ?_⟩
    have hSl := SqL.of (K := K) hla
    have lus : us.length = L.length := by rw [TpAll.length hus, List.length_map]
    walk_at "st"
    intro D nD
    have sD : Same H (upd H D (.dT [])) := Same.new nD
    have hSl2 := SqL.of (K := K) (sD _ _ hla)
    walk_at "st"
    refine for_list (K := K) (a := la) (xs := us) (fun i σ H' => Ok (∃ (y3 y4 y5 y6 y7 y8 y9 : Option V) (lk : List Pt) (vs : Pt → Addr) (kl : Pt → List Int), σ = [some (.ref la), some (.ref ma), some (.ref D), y3, y4, y5, y6, y7, y8, y9] ∧ LVis H' D m (visL (L.take i)) lk vs kl ∧ (∀ l, l ∈ lk ↔ ∃ e ∈ visL (L.take i), lan e.1 m = l) ∧ (∀ l ∈ lk, H (vs l) = none) ∧ lk.length ≤ i ∧ Same H H'))
      ⟨_, _, _, _, _, _, _, [], fun _ => 0, fun _ => [], rfl, ⟨upd_same, List.nodup_nil, fun l hl => absurd hl List.not_mem_nil, fun l hl => absurd hl List.not_mem_nil, fun l hl => absurd hl List.not_mem_nil, fun l hl => absurd hl List.not_mem_nil, fun l hl => absurd hl List.not_mem_nil, fun l hl => absurd hl List.not_mem_nil⟩, fun l => ⟨fun z => absurd z List.not_mem_nil, fun ⟨e, he, _⟩ => absurd he List.not_mem_nil⟩, fun l hl => absurd hl List.not_mem_nil, Nat.le_refl _, sD⟩
      (fun i σ H' _ ⟨_, _, _, _, _, _, _, _, _, _, _, _, _, _, _, sm⟩ => SqL.of (sm _ _ hla)) ?_ ?_
    · rintro i x σ H2 hx ⟨y3, y4, y5, y6, y7, y8, y9, lk, vs, kl, rfl, hV, hmem, hfr, llk, sm⟩
      have hiL : i < L.length := by
        have := (List.getElem?_eq_some_iff.mp hx).1
        omega
      have ei : L[i]? = some L[i] := List.getElem?_eq_getElem hiL
      have tk1 := take_more ei
      obtain ⟨u, eu, hu⟩ := hus.get (i := i) (d := tl3D L[i]) (by rw [List.getElem?_map, ei]; rfl)
      rw [hx] at eu
      cases eu
      generalize L[i] = e at *
      obtain ⟨wk, c, t⟩ := e
      have hu2 := Tp.mono (Same.tk sm) _ _ hu
      obtain ⟨xa, zs, rfl, hxa, hz⟩ := (show Tp K H2 x (.tuple [wkD wk, .int c, .int t]) from hu2).tupI
      obtain ⟨v1, zs, rfl, hv1, hz⟩ := hz.consI
      obtain ⟨v2, zs, rfl, hv2, hz⟩ := hz.consI
      obtain ⟨v3, zs, rfl, hv3, hz⟩ := hz.consI
      obtain rfl := hz.nilI
      obtain rfl := hv2.intI
      obtain rfl := hv3.intI
      obtain ⟨wa, rfl, hwa⟩ := (show Tp K H2 v1 (.tuple [.int wk.1, .int wk.2.1, .int wk.2.2.1, .int wk.2.2.2]) from hv1).int4
      walk_at "st"
      intro p1 np1
      have s3 : Same H2 (upd H2 p1 (.tup (cutV [.int wk.1, .int wk.2.1, .int wk.2.2.1, .int wk.2.2.2] none (some 2)))) := Same.new np1
      have hp1 : SqT K (upd H2 p1 (.tup (cutV [.int wk.1, .int wk.2.1, .int wk.2.2.1, .int wk.2.2.2] none (some 2)))) p1 [.int (wPt wk).1, .int (wPt wk).2] := SqT.of upd_same
      generalize hH3 : upd H2 p1 (.tup (cutV [.int wk.1, .int wk.2.1, .int wk.2.2.1, .int wk.2.2.2] none (some 2))) = H3 at *
      have hma3 := TK.seqT (Same.tk (Same.trans sm s3)) hma
      walk_at "st"
      intro r lt H4 hr1 hlt s4
      have s24 := Same.trans s3 s4
      have hr2 := SqT.of (K := K) hr1
      have hV4 := hV.same s24
      have tD := ty_dT (K := K) hV4.dc
      have hq0 := lan_back (wPt wk) m
      have visE : visL (L.take (i + 1)) = visL (L.take i) ++ [(wPt wk, c, t)] := by
        unfold visL
        rw [tk1, List.map_append]
        rfl
      have lenV : (visL (L.take i)).length ≤ i := by
        unfold visL
        rw [List.length_map]
        exact List.length_take_le _ _
      generalize visL (L.take i) = Lp at *
      generalize hl : lan (wPt wk) m = l at *
      generalize hk : alo (wPt wk) m = k at *
      have rl : lan l m = l := by rw [← hl]; exact lan_lan nz _
      walk_at "st"
      intro x nx
      have s5 : Same H4 (upd H4 x (.dK [])) := Same.new nx
      have hx5 : (upd H4 x (.dK [])) x = some (.dK []) := upd_same
      have xo : ∀ b o, H4 b = some o → b ≠ x := fun b o hb z => by
        rw [z, nx] at hb
        cases hb
      generalize hH5 : upd H4 x (.dK []) = H5 at *
      have s25 := Same.trans s24 s5
      have hV5 := hV.same s25
      have hlt5 := s5 _ _ hlt
      have s05 := Same.trans sm s25
      have x0 : H x = none := Same.back (Same.trans sm s24) nx
      have hsz : (lk.map fun l => (ptK l, V.ref (vs l))).length < sizeLine := by
        rw [List.length_map]
        exact Nat.lt_of_le_of_lt (show _ ≤ 3000 by omega) (by decide)
      walk_at "st"
      refine ⟨hV5.dc, (show H5 lt = some (.tup ((ptK l).map kV)) from hlt5), hsz, fun v hv => ?_, fun hn => ?_⟩
      · have hin : l ∈ lk := Classical.byContradiction fun z => by
          rw [valV_none.mpr fun y => z (ptK_ninj.mp y)] at hv
          cases hv
        rw [lk_val l hin] at hv
        obtain rfl := Option.some.inj hv
        obtain ⟨lk2, vs2, kl2, hV6, hin, hmem2, hfr2, llk2, ea⟩ : ∃ (lk2 : List Pt) (vs2 : Pt → Addr) (kl2 : Pt → List Int), LVis H5 D m Lp lk2 vs2 kl2 ∧ l ∈ lk2 ∧ (∀ l', l' ∈ lk2 ↔ (∃ e ∈ Lp, lan e.1 m = l') ∨ l' = l) ∧ (∀ l' ∈ lk2, H (vs2 l') = none) ∧ lk2.length ≤ i + 1 ∧ vs2 l = vs l := ⟨lk, vs, kl, hV5, hin, fun l' => by
          rw [← hmem l']
          exact ⟨.inl, fun z => z.elim id fun z => z ▸ hin⟩, hfr, by omega, rfl⟩
        obtain ⟨kvs, hk1, hk2, hk3, hk4⟩ := hV6.vis l hin
        have hks := hV6.ks l hin k
        have hlen := hV6.len l hin
        rw [ea] at hk1
        have lkv : kvs.length < sizeLine := by
          have z := congrArg List.length hk2
          rw [List.length_map, List.length_map] at z
          exact Nat.lt_of_le_of_lt (show _ ≤ 3000 by omega) (by decide)
        have gin : DGet H5 (vs l) (.int k) (valV kvs (Sum.inl k)) := DGet.k (k := Sum.inl k) hk1
        have inI : valV kvs (Sum.inl k) = none ↔ k ∉ kl2 l := by
          rw [valV_none, hk2]
          constructor
          · exact fun z y => z (List.mem_map.mpr ⟨k, y, rfl⟩)
          · intro z y
            obtain ⟨k', hk', e⟩ := List.mem_map.mp y
            exact z (Sum.inl.inj e ▸ hk')
        walk_at "st"
        refine ite2 (fun c1 => ?_) (fun c1 => ?_)
        · have ink : k ∈ kl2 l := Classical.byContradiction fun z => by
            rw [inI.mpr z] at c1
            cases c1
          obtain ⟨tt, et, htt⟩ := hk4 k ink
          have htt : H5 tt = some (.tup [.int (frd Lp (mvk l m k)), .int (lpt Lp (mvk l m k))]) := htt
          have gg := gin
          rw [et] at gg
          have htt2 := SqT.of (K := K) htt
          have e9 : frd Lp (mvk l m k) = frd (Lp ++ [(wPt wk, c, t)]) (wPt wk) := by
            rw [frd_app, hq0, if_pos (by rw [← hq0]; exact hks.mp ink)]
          walk_at "st"
          rw [e9]
          intro p np
          have s7 : Same H5 (upd H5 p (.tup [.int (frd (Lp ++ [(wPt wk, c, t)]) (wPt wk)), .int t])) := Same.new np
          have hp7 : (upd H5 p (.tup [.int (frd (Lp ++ [(wPt wk, c, t)]) (wPt wk)), .int t])) p = some (.tup [.int (frd (Lp ++ [(wPt wk, c, t)]) (wPt wk)), .int t]) := by
            rw [upd_same]
          generalize hH7 : upd H5 p (.tup [.int (frd (Lp ++ [(wPt wk, c, t)]) (wPt wk)), .int t]) = H7 at *
          have hV7 := hV6.same s7
          have hk7 := s7 _ _ hk1
          have hdp : DPut H7 (vs l) (.int k) (.ref p) (upd H7 (vs l) (.dK (putK kvs (Sum.inl k) (.ref p)))) := DPut.k (k := Sum.inl k) hk7 lkv
          obtain ⟨kl3, hP⟩ : ∃ kl3, LVis (upd H7 (vs l) (.dK (putK kvs (Sum.inl k) (.ref p)))) D m (Lp ++ [(wPt wk, c, t)]) lk2 vs2 kl3 := by
            have z := LVis.put (p := p) nz hV7 (wPt wk, c, t) (by show lan (wPt wk) m ∈ lk2; rw [hl]; exact hin) (kvs := kvs) (by show H7 (vs2 (lan (wPt wk) m)) = _; rw [hl, ea]; exact hk7) hp7
            dsimp only at z
            rw [hl, hk, ea] at z
            exact ⟨_, z⟩
          have nA : H (vs l) = none := by
            rw [← ea]
            exact hfr2 l hin
          have s08 : Same H (upd H7 (vs l) (.dK (putK kvs (Sum.inl k) (.ref p)))) := Same.fresh (Same.trans s05 s7) nA
          walk_at "st"
          refine ⟨_, _, _, _, _, _, _, lk2, vs2, kl3, rfl, by rw [visE]; exact hP, fun l' => ?_, hfr2, llk2, s08⟩
          rw [hmem2 l', visE]
          constructor
          · rintro (⟨e, he, z⟩ | z)
            · exact ⟨e, List.mem_append.mpr (.inl he), z⟩
            · exact ⟨_, List.mem_append.mpr (.inr (List.mem_singleton.mpr rfl)), by rw [z]; exact hl⟩
          · rintro ⟨e, he, z⟩
            rcases List.mem_append.mp he with y | y
            · exact .inl ⟨e, y, z⟩
            · rw [List.mem_singleton.mp y] at z
              exact .inr (z.symm.trans hl)
        · have nink : k ∉ kl2 l := inI.mp (by
            cases z : valV kvs (Sum.inl k) with
            | none => rfl
            | some y => exact absurd (by rw [z]; rfl) c1)
          have e9 : c = frd (Lp ++ [(wPt wk, c, t)]) (wPt wk) := by
            rw [frd_app, if_neg (fun z => nink (hks.mpr (by rw [hq0]; exact z))), if_pos rfl]
          walk_at "st"
          intro p np
          have s7 : Same H5 (upd H5 p (.tup [.int c, .int t])) := Same.new np
          have hp7 : (upd H5 p (.tup [.int c, .int t])) p = some (.tup [.int (frd (Lp ++ [(wPt wk, c, t)]) (wPt wk)), .int t]) := by
            rw [upd_same, ← e9]
          generalize hH7 : upd H5 p (.tup [.int c, .int t]) = H7 at *
          have hV7 := hV6.same s7
          have hk7 := s7 _ _ hk1
          have hdp : DPut H7 (vs l) (.int k) (.ref p) (upd H7 (vs l) (.dK (putK kvs (Sum.inl k) (.ref p)))) := DPut.k (k := Sum.inl k) hk7 lkv
          obtain ⟨kl3, hP⟩ : ∃ kl3, LVis (upd H7 (vs l) (.dK (putK kvs (Sum.inl k) (.ref p)))) D m (Lp ++ [(wPt wk, c, t)]) lk2 vs2 kl3 := by
            have z := LVis.put (p := p) nz hV7 (wPt wk, c, t) (by show lan (wPt wk) m ∈ lk2; rw [hl]; exact hin) (kvs := kvs) (by show H7 (vs2 (lan (wPt wk) m)) = _; rw [hl, ea]; exact hk7) hp7
            dsimp only at z
            rw [hl, hk, ea] at z
            exact ⟨_, z⟩
          have nA : H (vs l) = none := by
            rw [← ea]
            exact hfr2 l hin
          have s08 : Same H (upd H7 (vs l) (.dK (putK kvs (Sum.inl k) (.ref p)))) := Same.fresh (Same.trans s05 s7) nA
          walk_at "st"
          refine ⟨_, _, _, _, _, _, _, lk2, vs2, kl3, rfl, by rw [visE]; exact hP, fun l' => ?_, hfr2, llk2, s08⟩
          rw [hmem2 l', visE]
          constructor
          · rintro (⟨e, he, z⟩ | z)
            · exact ⟨e, List.mem_append.mpr (.inl he), z⟩
            · exact ⟨_, List.mem_append.mpr (.inr (List.mem_singleton.mpr rfl)), by rw [z]; exact hl⟩
          · rintro ⟨e, he, z⟩
            rcases List.mem_append.mp he with y | y
            · exact .inl ⟨e, y, z⟩
            · rw [List.mem_singleton.mp y] at z
              exact .inr (z.symm.trans hl)
      · have nl : l ∉ lk := fun z => by
          rw [lk_val l z] at hn
          cases hn
        have no : ∀ k', mvk l m k' ∉ visP Lp := fun k' z => by
          obtain ⟨e, he, ee⟩ := List.mem_map.mp z
          refine nl ((hmem l).mpr ⟨e, he, ?_⟩)
          have := lan_mvk nz l k'
          rw [← ee, rl] at this
          exact this
        have hA := hV5.add nl hx5 (xo _ _ hV4.dc).symm (fun l' hl' => by
          obtain ⟨_, h1, _⟩ := hV4.vis l' hl'
          exact xo _ _ h1) rl no
        have s06 : Same H (upd H5 D (.dT (putK (lk.map fun l => (ptK l, V.ref (vs l))) (ptK l) (.ref x)))) := Same.fresh s05 nD
        generalize hH6 : upd H5 D (.dT (putK (lk.map fun l => (ptK l, V.ref (vs l))) (ptK l) (.ref x))) = H6 at *
        obtain ⟨lk2, vs2, kl2, hV6, hin, hmem2, hfr2, llk2, ea⟩ : ∃ (lk2 : List Pt) (vs2 : Pt → Addr) (kl2 : Pt → List Int), LVis H6 D m Lp lk2 vs2 kl2 ∧ l ∈ lk2 ∧ (∀ l', l' ∈ lk2 ↔ (∃ e ∈ Lp, lan e.1 m = l') ∨ l' = l) ∧ (∀ l' ∈ lk2, H (vs2 l') = none) ∧ lk2.length ≤ i + 1 ∧ vs2 l = x := ⟨_, _, _, hA, List.mem_append.mpr (.inr (List.mem_singleton.mpr rfl)), fun l' => by
          rw [List.mem_append, List.mem_singleton, hmem l'], fun l' hl' => by
          by_cases z : l' = l
          · rw [if_pos z]
            exact x0
          · rw [if_neg z]
            rcases List.mem_append.mp hl' with y | y
            · exact hfr _ y
            · exact absurd (List.mem_singleton.mp y) z, by rw [List.length_append]; show lk.length + 1 ≤ i + 1; omega, by rw [if_pos rfl]⟩
        obtain ⟨kvs, hk1, hk2, hk3, hk4⟩ := hV6.vis l hin
        have hks := hV6.ks l hin k
        have hlen := hV6.len l hin
        rw [ea] at hk1
        have lkv : kvs.length < sizeLine := by
          have z := congrArg List.length hk2
          rw [List.length_map, List.length_map] at z
          exact Nat.lt_of_le_of_lt (show _ ≤ 3000 by omega) (by decide)
        have gin : DGet H6 x (.int k) (valV kvs (Sum.inl k)) := DGet.k (k := Sum.inl k) hk1
        have inI : valV kvs (Sum.inl k) = none ↔ k ∉ kl2 l := by
          rw [valV_none, hk2]
          constructor
          · exact fun z y => z (List.mem_map.mpr ⟨k, y, rfl⟩)
          · intro z y
            obtain ⟨k', hk', e⟩ := List.mem_map.mp y
            exact z (Sum.inl.inj e ▸ hk')
        walk_at "st"
        refine ite2 (fun c1 => ?_) (fun c1 => ?_)
        · have ink : k ∈ kl2 l := Classical.byContradiction fun z => by
            rw [inI.mpr z] at c1
            cases c1
          obtain ⟨tt, et, htt⟩ := hk4 k ink
          have htt : H6 tt = some (.tup [.int (frd Lp (mvk l m k)), .int (lpt Lp (mvk l m k))]) := htt
          have gg := gin
          rw [et] at gg
          have htt2 := SqT.of (K := K) htt
          have e9 : frd Lp (mvk l m k) = frd (Lp ++ [(wPt wk, c, t)]) (wPt wk) := by
            rw [frd_app, hq0, if_pos (by rw [← hq0]; exact hks.mp ink)]
          walk_at "st"
          rw [e9]
          intro p np
          have s7 : Same H6 (upd H6 p (.tup [.int (frd (Lp ++ [(wPt wk, c, t)]) (wPt wk)), .int t])) := Same.new np
          have hp7 : (upd H6 p (.tup [.int (frd (Lp ++ [(wPt wk, c, t)]) (wPt wk)), .int t])) p = some (.tup [.int (frd (Lp ++ [(wPt wk, c, t)]) (wPt wk)), .int t]) := by
            rw [upd_same]
          generalize hH7 : upd H6 p (.tup [.int (frd (Lp ++ [(wPt wk, c, t)]) (wPt wk)), .int t]) = H7 at *
          have hV7 := hV6.same s7
          have hk7 := s7 _ _ hk1
          have hdp : DPut H7 x (.int k) (.ref p) (upd H7 x (.dK (putK kvs (Sum.inl k) (.ref p)))) := DPut.k (k := Sum.inl k) hk7 lkv
          obtain ⟨kl3, hP⟩ : ∃ kl3, LVis (upd H7 x (.dK (putK kvs (Sum.inl k) (.ref p)))) D m (Lp ++ [(wPt wk, c, t)]) lk2 vs2 kl3 := by
            have z := LVis.put (p := p) nz hV7 (wPt wk, c, t) (by show lan (wPt wk) m ∈ lk2; rw [hl]; exact hin) (kvs := kvs) (by show H7 (vs2 (lan (wPt wk) m)) = _; rw [hl, ea]; exact hk7) hp7
            dsimp only at z
            rw [hl, hk, ea] at z
            exact ⟨_, z⟩
          have nA : H x = none := by
            rw [← ea]
            exact hfr2 l hin
          have s08 : Same H (upd H7 x (.dK (putK kvs (Sum.inl k) (.ref p)))) := Same.fresh (Same.trans s06 s7) nA
          walk_at "st"
          refine ⟨_, _, _, _, _, _, _, lk2, vs2, kl3, rfl, by rw [visE]; exact hP, fun l' => ?_, hfr2, llk2, s08⟩
          rw [hmem2 l', visE]
          constructor
          · rintro (⟨e, he, z⟩ | z)
            · exact ⟨e, List.mem_append.mpr (.inl he), z⟩
            · exact ⟨_, List.mem_append.mpr (.inr (List.mem_singleton.mpr rfl)), by rw [z]; exact hl⟩
          · rintro ⟨e, he, z⟩
            rcases List.mem_append.mp he with y | y
            · exact .inl ⟨e, y, z⟩
            · rw [List.mem_singleton.mp y] at z
              exact .inr (z.symm.trans hl)
        · have nink : k ∉ kl2 l := inI.mp (by
            cases z : valV kvs (Sum.inl k) with
            | none => rfl
            | some y => exact absurd (by rw [z]; rfl) c1)
          have e9 : c = frd (Lp ++ [(wPt wk, c, t)]) (wPt wk) := by
            rw [frd_app, if_neg (fun z => nink (hks.mpr (by rw [hq0]; exact z))), if_pos rfl]
          walk_at "st"
          intro p np
          have s7 : Same H6 (upd H6 p (.tup [.int c, .int t])) := Same.new np
          have hp7 : (upd H6 p (.tup [.int c, .int t])) p = some (.tup [.int (frd (Lp ++ [(wPt wk, c, t)]) (wPt wk)), .int t]) := by
            rw [upd_same, ← e9]
          generalize hH7 : upd H6 p (.tup [.int c, .int t]) = H7 at *
          have hV7 := hV6.same s7
          have hk7 := s7 _ _ hk1
          have hdp : DPut H7 x (.int k) (.ref p) (upd H7 x (.dK (putK kvs (Sum.inl k) (.ref p)))) := DPut.k (k := Sum.inl k) hk7 lkv
          obtain ⟨kl3, hP⟩ : ∃ kl3, LVis (upd H7 x (.dK (putK kvs (Sum.inl k) (.ref p)))) D m (Lp ++ [(wPt wk, c, t)]) lk2 vs2 kl3 := by
            have z := LVis.put (p := p) nz hV7 (wPt wk, c, t) (by show lan (wPt wk) m ∈ lk2; rw [hl]; exact hin) (kvs := kvs) (by show H7 (vs2 (lan (wPt wk) m)) = _; rw [hl, ea]; exact hk7) hp7
            dsimp only at z
            rw [hl, hk, ea] at z
            exact ⟨_, z⟩
          have nA : H x = none := by
            rw [← ea]
            exact hfr2 l hin
          have s08 : Same H (upd H7 x (.dK (putK kvs (Sum.inl k) (.ref p)))) := Same.fresh (Same.trans s06 s7) nA
          walk_at "st"
          refine ⟨_, _, _, _, _, _, _, lk2, vs2, kl3, rfl, by rw [visE]; exact hP, fun l' => ?_, hfr2, llk2, s08⟩
          rw [hmem2 l', visE]
          constructor
          · rintro (⟨e, he, z⟩ | z)
            · exact ⟨e, List.mem_append.mpr (.inl he), z⟩
            · exact ⟨_, List.mem_append.mpr (.inr (List.mem_singleton.mpr rfl)), by rw [z]; exact hl⟩
          · rintro ⟨e, he, z⟩
            rcases List.mem_append.mp he with y | y
            · exact .inl ⟨e, y, z⟩
            · rw [List.mem_singleton.mp y] at z
              exact .inr (z.symm.trans hl)
    · rintro σ H' ⟨y3, y4, y5, y6, y7, y8, y9, lk, vs, kl, rfl, hV, hmem, hfr, llk, sm⟩
      rw [lus, List.take_length] at hV hmem
      rw [lus] at llk
      walk_at "st"
      exact q D H' lk vs kl nD hfr hV hmem llk sm
end

/-! ### the colours of all lanes, laid -/
structure LCol (H : Hp) (C : Addr) (m : Pt) (lk : List Pt) (cs : Pt → Addr) (M : CM) : Prop where
  dc : H C = some (.dT (lk.map fun l => (ptK l, V.ref (cs l))))
  nd : lk.Nodup
  inj : ∀ l ∈ lk, ∀ l' ∈ lk, cs l = cs l' → l = l'
  ne : ∀ l ∈ lk, cs l ≠ C
  co : ∀ l ∈ lk, ∃ cl : List (Int × Int), H (cs l) = some (.dK (colK cl)) ∧ (cl.map (·.1)).Nodup ∧ cl.length ≤ M.length ∧ ∀ j, lkI cl j = look M (mvk l m j)
theorem LCol.same {H H' : Hp} {C : Addr} {m : Pt} {lk : List Pt} {cs : Pt → Addr} {M : CM} (h : LCol H C m lk cs M) (k : ∀ b o, H b = some o → (b = C ∨ ∃ l ∈ lk, b = cs l) → H' b = some o) : LCol H' C m lk cs M :=
  ⟨k _ _ h.dc (.inl rfl), h.nd, h.inj, h.ne, fun l hl => by
    obtain ⟨cl, h1, h2⟩ := h.co l hl
    exact ⟨cl, k _ _ h1 (.inr ⟨l, hl, rfl⟩), h2⟩⟩
theorem LCol.add {H : Hp} {C x : Addr} {m l : Pt} {lk : List Pt} {cs : Pt → Addr} (h : LCol H C m lk cs []) (nl : l ∉ lk) (hx : H x = some (.dK [])) (xC : x ≠ C) (xv : ∀ l' ∈ lk, cs l' ≠ x) :
    LCol (upd H C (.dT (putK (lk.map fun l => (ptK l, V.ref (cs l))) (ptK l) (.ref x)))) C m (lk ++ [l]) (fun y => if y = l then x else cs y) [] := by
  have nin : valV (lk.map fun l => (ptK l, V.ref (cs l))) (ptK l) = none := valV_none.mpr fun z => nl (ptK_ninj.mp z)
  have ne : ∀ y ∈ lk, ¬ y = l := fun y hy z => nl (z ▸ hy)
  have cse : ∀ {y}, y ∈ lk ++ [l] → y ∈ lk ∨ y = l := fun hy => by
    rcases List.mem_append.mp hy with h | h
    · exact .inl h
    · exact .inr (List.mem_singleton.mp h)
  refine ⟨?_, ?_, ?_, ?_, ?_⟩
  · rw [upd_same, putK_new _ nin, List.map_append]
    congr 2
    congr 1
    · refine List.map_congr_left fun y hy => ?_
      rw [if_neg (ne y hy)]
    · show [(ptK l, V.ref x)] = [(ptK l, V.ref (if l = l then x else cs l))]
      rw [if_pos rfl]
  · refine List.nodup_append.mpr ⟨h.nd, (by simp), fun a ha b hb => ?_⟩
    rw [List.mem_singleton.mp hb]
    exact ne a ha
  · intro a ha b hb e
    rcases cse ha with ha2 | ea
    · rcases cse hb with hb2 | eb
      · rw [if_neg (ne a ha2), if_neg (ne b hb2)] at e
        exact h.inj a ha2 b hb2 e
      · rw [if_neg (ne a ha2), if_pos eb] at e
        exact absurd e (xv a ha2)
    · rcases cse hb with hb2 | eb
      · rw [if_pos ea, if_neg (ne b hb2)] at e
        exact absurd e.symm (xv b hb2)
      · rw [ea, eb]
  · intro a ha
    rcases cse ha with ha2 | ea
    · rw [if_neg (ne a ha2)]
      exact h.ne a ha2
    · rw [if_pos ea]
      exact xC
  · intro a ha
    rcases cse ha with ha2 | ea
    · rw [if_neg (ne a ha2)]
      obtain ⟨cl, h1, h2⟩ := h.co a ha2
      exact ⟨cl, (upd_ne (h.ne a ha2)).trans h1, h2⟩
    · rw [if_pos ea]
      exact ⟨[], (upd_ne xC).trans hx, List.nodup_nil, Nat.le_refl _, fun j => rfl⟩
theorem look_app {q : Pt} {c : Int} (p : Pt) : ∀ {M : CM}, q ∉ M.map (·.1) → look (M ++ [(q, c)]) p = if p = q then some c else look M p
  | [], _ => by
    show look [(q, c)] p = _
    unfold look
    by_cases h : p = q
    · simp [h, look]
    · simp [h, Ne.symm h, look]
  | e :: r, h => by
    have h1 : ¬ e.1 = q := fun z => h (List.mem_cons.mpr (.inl z.symm))
    have ih := look_app (M := r) p (fun z => h (List.mem_cons_of_mem _ z)) (c := c)
    show look (e :: (r ++ [(q, c)])) p = _
    unfold look
    by_cases g : e.1 = p
    · have : ¬ p = q := fun z => h1 (g.trans z)
      simp [g, this]
    · simp [g, ih]
theorem LCol.skip {H : Hp} {C : Addr} {m q : Pt} {c : Int} {lk : List Pt} {cs : Pt → Addr} {M : CM} (hm : m ≠ (0, 0)) (h : LCol H C m lk cs M) (rep : ∀ l ∈ lk, lan l m = l) (nq : q ∉ M.map (·.1)) (nl : lan q m ∉ lk) : LCol H C m lk cs (M ++ [(q, c)]) := by
  refine ⟨h.dc, h.nd, h.inj, h.ne, fun l hl => ?_⟩
  obtain ⟨cl, h1, h2, h3, h4⟩ := h.co l hl
  refine ⟨cl, h1, h2, by rw [List.length_append]; omega, fun j => ?_⟩
  rw [h4, look_app _ nq, if_neg]
  intro z
  have := lan_mvk hm l j
  rw [z, rep l hl] at this
  exact nl (this ▸ hl)
theorem LCol.put {H : Hp} {C : Addr} {m q : Pt} {c : Int} {lk : List Pt} {cs : Pt → Addr} {M : CM} (hm : m ≠ (0, 0)) (h : LCol H C m lk cs M) (rep : ∀ l ∈ lk, lan l m = l) (nq : q ∉ M.map (·.1)) (hl : lan q m ∈ lk) {cl : List (Int × Int)} (hc : H (cs (lan q m)) = some (.dK (colK cl))) :
    LCol (upd H (cs (lan q m)) (.dK (putK (colK cl) (Sum.inl (alo q m)) (.int c)))) C m lk cs (M ++ [(q, c)]) := by
  have hb := lan_back q m
  refine ⟨(upd_ne (h.ne _ hl).symm).trans h.dc, h.nd, h.inj, h.ne, fun l hl2 => ?_⟩
  by_cases e : l = lan q m
  · rw [e]
    obtain ⟨cl', h1, h2, h3, h4⟩ := h.co _ hl
    rw [hc] at h1
    have e0 : colK cl = colK cl' := by
      injection h1 with h1
      injection h1
    rw [e0]
    have nk : lkI cl' (alo q m) = none := by
      rw [h4, hb]
      exact look_none.mpr nq
    have nv : valV (colK cl') (Sum.inl (alo q m)) = none := by
      rw [colK_val, nk]
      rfl
    have nin : alo q m ∉ cl'.map (·.1) := fun z => by
      obtain ⟨x, hx, ex⟩ := List.mem_map.mp z
      have := mem_lkI h2 (show (x.1, x.2) ∈ cl' from hx)
      rw [ex, nk] at this
      cases this
    refine ⟨cl' ++ [(alo q m, c)], ?_, ?_, ?_, fun j => ?_⟩
    · rw [upd_same, putK_new _ nv]
      unfold colK
      rw [List.map_append]
      rfl
    · rw [List.map_append]
      refine List.nodup_append.mpr ⟨h2, (by simp), fun a ha b hb2 z => ?_⟩
      rw [show b = alo q m from List.mem_singleton.mp hb2] at z
      exact nin (z ▸ ha)
    · rw [List.length_append, List.length_append]
      show _ + 1 ≤ _ + 1
      omega
    · rw [look_app _ nq, ← h4]
      have ap : ∀ {r : List (Int × Int)}, (alo q m) ∉ r.map (·.1) → lkI (r ++ [(alo q m, c)]) j = if j = alo q m then some c else lkI r j := by
        intro r
        induction r with
        | nil =>
          intro _
          show lkI [(alo q m, c)] j = _
          unfold lkI
          by_cases g : j = alo q m
          · simp [g, lkI]
          · simp [g, Ne.symm g, lkI]
        | cons x r ih =>
          intro hn
          have h1 : ¬ x.1 = alo q m := fun z => hn (List.mem_cons.mpr (.inl z.symm))
          have ih := ih fun z => hn (List.mem_cons_of_mem _ z)
          show lkI (x :: (r ++ [(alo q m, c)])) j = _
          unfold lkI
          by_cases g : x.1 = j
          · have : ¬ j = alo q m := fun z => h1 (g.trans z)
            simp [g, this]
          · simp [g, ih]
      rw [ap nin]
      by_cases g : j = alo q m
      · rw [if_pos g, if_pos (by rw [g]; exact hb)]
      · rw [if_neg g, if_neg (fun z => g (mvk_inj hm (z.trans hb.symm)))]
  · obtain ⟨cl', h1, h2, h3, h4⟩ := h.co l hl2
    refine ⟨cl', (upd_ne fun z => e (h.inj _ hl2 _ hl z)).trans h1, h2, by rw [List.length_append]; omega, fun j => ?_⟩
    rw [h4, look_app _ nq, if_neg]
    intro z
    have := lan_mvk hm l j
    rw [z, rep l hl2] at this
    exact e this.symm

/-! ### a dictionary made by a comprehension and named -/
theorem dc_core {X : Cx} {kx vx tg iter : Expr} {scope : Scope} {own : List (Str × Nat)} {pos pos' : Pos} {wi : TI} {g : TG} {tk tv : TE} {use : Option (Value → Sem Unit)} {Qf : Value → Shared → Prop} {pins : List (Addr × Obj)} {s : Shared} {σ : L2.St} {H : Hp} {Q : VK} (calm : X.calm = true) (room : X.A.units < cLine) (nd : X.N.Nodup) (I : Inv X pins σ H s) (src : PI X tg iter wi) (blk : BlkOk X.N X.env.scope scope own)
    (aim : ∀ (z : Shared) (Hz : Hp) (cl : List (Str × Addr)) (C : Addr) (fp : List Addr), PG (X.blk z Hz scope (compEnvC scope cl C X.env) fp) tg g)
    (key : ∀ (z : Shared) (Hz : Hp) (cl : List (Str × Addr)) (C : Addr) (fp : List Addr), PE (X.blk z Hz scope (compEnvC scope cl C X.env) fp) kx tk)
    (val : ∀ (z : Shared) (Hz : Hp) (cl : List (Str × Addr)) (C : Addr) (fp : List Addr), PE (X.blk z Hz scope (compEnvC scope cl C X.env) fp) vx tv) (plain : ∀ x, foldedSetIterable iter X.env x = pure x)
    (want : tDcT wi g tk tv (own.map (·.2)) σ H Q)
    (hRR : ∀ D C s' m H', Inv X pins σ H' s' → Q (.ref D) H' → s'.heap.Ns C m → FpOk X pins H' C → compPost (model X.prog X.w) X.A X.xe use Qf (.ref D) C (.ok .next) s') :
    wpAny (model X.prog X.w) X.A (comprehension (.DictComp kx vx [⟨tg, iter, [], 0⟩] scope pos) scope X.env pos' newDict false (eval iter X.env) use) Qf X.xe s := by
  have outer : ∀ y ∈ scope.names, y.2 = .free → ∃ c, X.env.cells.lookup y.1 = some c := fun y hy e => (blk.free y hy e).elim (fun k => I.ok.has _ (.inl k)) fun k => I.ok.has _ (.inr k)
  refine wpAny_comprehension_free (use := use) rfl plain (closure_ok outer) blk.kind (fun y hy e => by rw [blk.uniq y hy, e]) (thn (src.run pins s σ H _ I want) fun _ _ begun => thn begun fun itv s2 ready => ?_)
  obtain ⟨it, fp, tn, J, H2, rfl, I2, T, at0, out2, rest⟩ := ready
  refine wpAny_newObj_type (newEnv_comp ?_)
  have fresh : H2 s2.heap.objs.size = none := I2.hok.fresh (Nat.le_refl _)
  obtain ⟨W, ⟨m0, w0⟩, turn⟩ := rest _ fresh
  have laid := I2.laid (a := s2.heap.objs.size) (o := .dT []) (t' := s2.toks) (fun b o e => Heap.get?_push_of_some _ e) (Nat.le_refl _) (dt_empty s2.heap I2.big)
  have below : ∀ b ∈ fp, b < s2.heap.objs.size := fun b hb => let ⟨_, e, _⟩ := T.obj _ _ at0 b hb; Heap.lt_size e
  have fp3 : ∀ b ∈ fp, FpOk X pins (upd H2 s2.heap.objs.size (.dT [])) b ∧ b < (s2.heap.push { cls := .type "dict", data := .dict #[] }).objs.size := fun b hb => by
    refine ⟨⟨(upd_ne (Nat.ne_of_lt (below b hb))).trans (out2 b hb).1, (out2 b hb).2⟩, ?_⟩
    rw [Heap.size_push]
    exact Nat.lt_succ_of_lt (below b hb)
  have at3 : tn 0 (s2.heap.push { cls := .type "dict", data := .dict #[] }) := T.keep _ _ _ at0 fun b _ o e => Heap.get?_push_of_some _ e
  generalize hz : ({ s2 with heap := s2.heap.push { cls := .type "dict", data := .dict #[] } } : Shared) = z at laid
  have hzh : z.heap = s2.heap.push { cls := .type "dict", data := .dict #[] } := by rw [← hz]
  rw [← hzh] at fp3 at3
  have inner := block_start laid blk nd fp3
  have aim' := aim z (upd H2 s2.heap.objs.size (.dT [])) (cellsFrom (z.heap.objs.size + 1) scope.names (cloFrom X.env.cells scope.names [])) z.heap.objs.size fp
  have key' := key z (upd H2 s2.heap.objs.size (.dT [])) (cellsFrom (z.heap.objs.size + 1) scope.names (cloFrom X.env.cells scope.names [])) z.heap.objs.size fp
  have val' := val z (upd H2 s2.heap.objs.size (.dT [])) (cellsFrom (z.heap.objs.size + 1) scope.names (cloFrom X.env.cells scope.names [])) z.heap.objs.size fp
  have noFp : ∀ b ∈ fp, upd H2 s2.heap.objs.size (.dT []) b = none := fun b hb => (fp3 b hb).1.1
  have goal2 : codeAny (model X.prog X.w) X.A (.compStart (.DictComp kx vx [⟨tg, iter, [], 0⟩] scope pos) 0 (.ref it) (.ref s2.heap.objs.size) (compEnvC scope (cellsFrom (z.heap.objs.size + 1) scope.names (cloFrom X.env.cells scope.names [])) z.heap.objs.size X.env))
      (compPost (model X.prog X.w) X.A X.xe use Qf (.ref s2.heap.objs.size) z.heap.objs.size) { z with heap := pushCells (z.heap.push { cls := .type "dict", data := .dict #[] }) scope.names } := ?_
  · exact goal2
  generalize hce : compEnvC scope (cellsFrom (z.heap.objs.size + 1) scope.names (cloFrom X.env.cells scope.names [])) z.heap.objs.size X.env = ce at inner aim' key' val' ⊢
  have loc : ce.locals = z.heap.objs.size := by rw [← hce]; rfl
  generalize hB : upd H2 s2.heap.objs.size (.dT []) = Hb at laid inner aim' key' val' w0 noFp fp3
  generalize hs4 : ({ z with heap := pushCells (z.heap.push { cls := .type "dict", data := .dict #[] }) scope.names } : Shared) = s4 at inner ⊢
  have at4 : tn 0 s4.heap := T.keep _ _ _ at3 fun b _ o e => by
    rw [← hs4]
    exact pushCells_keeps _ _ _ _ (Heap.get?_push_of_some _ e)
  have apart : ∀ {σ1 : L2.St} {H1 : Hp} {z1 : Shared}, Inv (X.blk z Hb scope ce fp) [] σ1 H1 z1 → (∀ b ∈ fp, H1 b = none) → ∀ b ∈ fp, FpOk (X.blk z Hb scope ce fp) [] H1 b := fun I1 n1 b hb =>
    ⟨n1 b hb, (I1.ok.exf b hb).1, I1.ok.exfs b hb, .inl hb, fun x c e => (I1.ok.exf b hb).2 x c e, fun p hp => nomatch hp⟩
  have loop : codeAny (model X.prog X.w) X.A (.compLoop (.DictComp kx vx [⟨tg, iter, [], 0⟩] scope pos) 0 (.ref it) (.ref s2.heap.objs.size) ce) (compPost (model X.prog X.w) X.A X.xe use Qf (.ref s2.heap.objs.size) z.heap.objs.size) s4 := by
    refine compLoop_anyD (fun n z1 => ∃ i H1, Inv (X.blk z Hb scope ce fp) [] (wipe σ (own.map (·.2))) H1 z1 ∧ tn i z1.heap ∧ (∀ b ∈ fp, H1 b = none) ∧ W i n H1) ?_ m0 ⟨0, Hb, inner, at4, noFp, w0⟩
    rintro n z5 ⟨i, H5, I5, at5, n5, w5⟩
    cases turn i n H5 w5 with
    | inl over =>
      obtain ⟨stop, told⟩ := over
      refine thnF (T.done (X.blk z Hb scope ce fp) rfl rfl rfl calm i [] z5 _ H5 (fun _ _ => False) I5 (apart I5 n5) at5 stop) fun r z6 ⟨hr, I6⟩ => ?_
      subst hr
      have back : Inv X pins σ H5 z6 := laid.call' (ch := fp) I6.os I6.base I6.hok I6.bare fun b hb => let f := (fp3 b hb).1; ⟨f.2.2.2.1, f.2.1, f.2.2.2.2.1, f.2.2.2.2.2⟩
      have nL : H5 z.heap.objs.size = none := by rw [← loc]; exact I6.free
      obtain ⟨m, ns, _⟩ := I6.loc
      have ns' : z6.heap.Ns ce.locals m := ns
      rw [loc] at ns'
      exact hRR s2.heap.objs.size z.heap.objs.size z6 m H5 back told ns' (laid.fpOk (Nat.le_refl z.heap.objs.size) nL)
    | inr more =>
      obtain ⟨go, Nx, after, step⟩ := more
      refine thnF (T.item (X.blk z Hb scope ce fp) rfl rfl rfl calm i [] z5 _ H5 (fun _ _ => False) I5 (apart I5 n5) at5 go) fun r z6 ⟨u, hr, h6⟩ => ?_
      subst hr
      refine thnF h6 fun _ z7 ⟨x, H7, I7, r7, y7, at7, n7⟩ => ?_
      refine thnF (aim'.run _ z7 _ H7 x u _ (I7.pinned (apart I7 n7) (T.obj _ _ at7)) r7 (step x H7 y7)) fun _ z8 ⟨σ8, H8, I8, same8, q8⟩ => ?_
      refine wpAny_pure ?_
      show if true = true then _ else _
      rw [if_pos rfl]
      refine thnF (key'.run _ z8 σ8 H8 _ I8 q8) fun ky z9 ⟨yk, H9, I9, r9, q9⟩ => ?_
      refine thnF (val'.run _ z9 σ8 H9 _ I9 q9) fun vy z10 ⟨yv, H10, I10, r10, kvs, k, b, eb, hb10, hD10, lt10, nx⟩ => ?_
      subst eb
      obtain rfl : ky = Value.ref b := r9
      refine dsetT (X := X.blk z Hb scope ce fp) room I10 hD10 hb10 lt10 r10 fun z11 I11 => ?_
      obtain ⟨m', less, w'⟩ := after _ nx
      have pin : ∀ c ∈ fp, ∀ o, z7.heap.get? c = some o → z11.heap.get? c = some o ∧ upd H10 s2.heap.objs.size (.dT (putK kvs k yv)) c = none := fun c hc o e => by
        have p := I11.pin (c, o) (List.mem_append_right _ (List.mem_append_right _ (mem_pinsAt hc e)))
        exact ⟨p.1, p.2.1⟩
      refine ⟨m', less, i + 1, _, (I11.unpinned (pins := [])).weak ?_ (fun j v e => ?_), T.keep _ _ _ at7 fun c hc o e => (pin c hc o e).1, fun c hc => ?_, w'⟩
      · rw [← same8, wipe_length]
      · rw [← same8] at e
        exact (wipe_some e).1
      · obtain ⟨o, e, _⟩ := T.obj _ _ at7 c hc
        exact (pin c hc o e).2
  exact codeAny_compStart_dict loop (T.self X.A 0 _ _ _ at4 loop)
/-- name = {..: .. for ..} on one line, the name a local -/
theorem ps_setDcT {X : Cx} {i : Nat} {y : Str} {py : Pos} {kx vx tg iter : Expr} {scope : Scope} {own : List (Str × Nat)} {pos spos : Pos} {wi : TI} {g : TG} {tk tv : TE} (calm : X.calm = true) (room : X.A.units < cLine) (nd : X.N.Nodup) (hy : X.N[i]? = some y) (hyl : X.env.scope.names.lookup y = some .local)
    (hsw : swapsWith (.DictComp kx vx [⟨tg, iter, [], 0⟩] scope pos) (some (.Name y py)) spos.line X.env = pure true) (src : PI X tg iter wi) (blk : BlkOk X.N X.env.scope scope own)
    (aim : ∀ (z : Shared) (Hz : Hp) (cl : List (Str × Addr)) (C : Addr) (fp : List Addr), PG (X.blk z Hz scope (compEnvC scope cl C X.env) fp) tg g)
    (key : ∀ (z : Shared) (Hz : Hp) (cl : List (Str × Addr)) (C : Addr) (fp : List Addr), PE (X.blk z Hz scope (compEnvC scope cl C X.env) fp) kx tk)
    (val : ∀ (z : Shared) (Hz : Hp) (cl : List (Str × Addr)) (C : Addr) (fp : List Addr), PE (X.blk z Hz scope (compEnvC scope cl C X.env) fp) vx tv) (plain : ∀ x, foldedSetIterable iter X.env x = pure x := by intro _; rfl) :
    PS X (.Assign [.Name y py] (.DictComp kx vx [⟨tg, iter, [], 0⟩] scope pos) spos) (tAsg (tDcT wi g tk tv (own.map (·.2))) (gName i)) := by
  refine ⟨fun pins s σ H D I h => ?_⟩
  rw [exec_Assign_Name_used _ _ _ _ hsw]
  refine wpAny_bind (wpAny_standAt (wpAny_bind ?_))
  show wpAny _ X.A (do let _ ← comprehension (.DictComp kx vx [⟨tg, iter, [], 0⟩] scope pos) scope X.env (firstIterPos [⟨tg, iter, [], 0⟩] pos) newDict false (eval iter X.env) (some (assign (.Name y py) X.env))) _ _ s
  have h : tDcT wi g tk tv (own.map (·.2)) σ H (fun x H1 => gName i x σ H1 D.nx) := h
  refine wpAny_bind (thn (dc_core (Qf := fun _ s' => SP X pins D .next s') calm room nd I src blk aim key val plain h fun L C s' m H' I' q hn f => ?_) fun _ s' hq => wpAny_pure (wpAny_pure hq))
  show wpAny _ _ (assign (.Name y py) X.env (.ref L)) _ _ _
  refine wpAny_assign_Name (store_ok2 (v := V.ref L) I' nd hy (.inl hyl) rfl (fun s2 I2 ⟨a, sb, ha⟩ => ?_) (.inr hyl))
  obtain ⟨f0, f1, f2, f3, f4, f5⟩ := f
  have haC : C ≠ a := by
    rcases ha with z | z
    · rw [z]; exact f1
    · exact fun e => f4 y a z e.symm
  refine ⟨m, hn.sameBut sb haC, fun h3 sb3 => ?_⟩
  exact ⟨_, H', I2.turned (t' := s2.toks) (fun b o hb e => (sb3.2 b hb).trans e) f0 f1 f3 f4 f5, q⟩
theorem sw_trueD {kx vx : Expr} {gs : List Comprehension} {scope : Scope} {pos py : Pos} {y : Str} {l : Nat} {env : Env} (hk : env.scope.kind = .function) (hy : env.scope.names.lookup y = some .local) (hl : (py.line == pos.line) = true)
    (ha : (scope.names.any fun (n, k) => n == y && (k == .local || k == .cell)) = false) : swapsWith (.DictComp kx vx gs scope pos) (some (.Name y py)) l env = pure true := by
  have ky : env.kindOf y = some .local := hy
  have hb : env.blockKind = .function := by unfold Env.blockKind; rw [hk]; rfl
  unfold swapsWith
  simp only [hb, ky, ha, Expr.pos, hl]
  rfl

/-! ### _repeats_for_ever -/
theorem fdiv_le (a b : Int) : (a.fdiv b).natAbs ≤ a.natAbs + 1 := by
  have h := Int.natAbs_ediv_le_natAbs a b
  rw [Int.fdiv_eq_ediv]
  split <;> omega
theorem alo_le (p m : Pt) {B : Nat} (h1 : p.1.natAbs ≤ B) (h2 : p.2.natAbs ≤ B) : (alo p m).natAbs ≤ B + 1 := by
  unfold alo
  split
  · have := fdiv_le p.1 m.1
    omega
  · have := fdiv_le p.2 m.2
    omega
theorem le_mul_abs {k x : Int} {B : Nat} (hx : x ≠ 0) (h : (k * x).natAbs ≤ B) : k.natAbs ≤ B := by
  rw [Int.natAbs_mul] at h
  have h1 : 1 ≤ x.natAbs := by omega
  have := Nat.mul_le_mul_left k.natAbs h1
  omega
theorem mvk_wide {m l : Pt} (nz : m ≠ (0, 0)) {k k' : Int} {B : Nat} (h1 : ((mvk l m k').1 - (mvk l m k).1).natAbs ≤ B) (h2 : ((mvk l m k').2 - (mvk l m k).2).natAbs ≤ B) : (k' - k).natAbs ≤ B := by
  have e1 : (mvk l m k').1 - (mvk l m k).1 = (k' - k) * m.1 := by
    unfold mvk
    show l.1 + k' * m.1 - (l.1 + k * m.1) = _
    rw [Int.sub_mul]
    omega
  have e2 : (mvk l m k').2 - (mvk l m k).2 = (k' - k) * m.2 := by
    unfold mvk
    show l.2 + k' * m.2 - (l.2 + k * m.2) = _
    rw [Int.sub_mul]
    omega
  rw [e1] at h1
  rw [e2] at h2
  by_cases z : m.1 = 0
  · exact le_mul_abs (fun z2 => nz (Prod.ext z z2)) h2
  · exact le_mul_abs z h1
def spRepeat (K : PySem.W.Frag) : Sp := fun vs H Q _ => ∃ (D1 la ma : Addr) (gv : V) (us : List V) (L : List (Wk × Int × Int)) (m1 : CM) (m : Pt), vs = [.ref D1, .ref la, .ref ma, gv] ∧ H D1 = some (.dT (cellK m1)) ∧ (m1.map (·.1)).Nodup ∧ m1.length ≤ 3000 ∧ H la = some (.lst us) ∧ TpAll K H us (L.map tl3D) ∧ SqT K H ma [.int m.1, .int m.2] ∧ m ≠ (0, 0) ∧ m.1.natAbs ≤ 3000 ∧ m.2.natAbs ≤ 3000 ∧ L.length ≤ 3000 ∧ Tp K H gv blankG ∧
  (∀ q ∈ visP (visL L), q.1.natAbs ≤ 100000000000 ∧ q.2.natAbs ≤ 100000000000) ∧ (∀ q ∈ visP (visL L), ∀ q' ∈ visP (visL L), (q'.1 - q.1).natAbs ≤ 4000 ∧ (q'.2 - q.2).natAbs ≤ 4000) ∧
  ∀ (b : Bool) (H' : Hp), (b = true ↔ StreetOk (visL L) (col m1) m) → Same H H' → Q (.bl b) H'
section
variable {P : Program} {w : World} {K : PySem.W.Frag} {mg : Str → Option Value} {base : Heap}
local macro_rules | `(tactic| walk_at "cl") => `(tactic| first | (refine le_only ?_; omega) | (refine lt_only ?_; omega) | assumption)
theorem ok_u_repeats_for_ever (T : Txt K mg) (D : DefAt K mg "_repeats_for_ever" s_u_repeats_for_ever ["painted", "loop", "move", "ground"]) (C_lane_visits : Cal P w K mg base CX0 "_lane_visits" 2 ["loop", "move"] (spLaneVis K)) (C_lane_of : Cal P w K mg base CX0 "lane_of" 1 ["place", "move"] (spLaneOf K)) (C_lane_repeats : Cal P w K mg base CX0 "_lane_repeats" 1 ["visits", "colours", "own"] (spLaneRep K)) (C_lane_ground : Cal P w K mg base CX0 "_lane_ground" 2 ["lane", "move", "ground"] (spLaneGround K)) : Cal P w K mg base CX0 "_repeats_for_ever" 3 ["painted", "loop", "move", "ground"] (spRepeat K) := by
  refine D.cal sc_u_repeats_for_ever (fun vs H Q E h => ?_) (fun f cdv A outer s H vs Q E hr h => ?_)
  · obtain ⟨D1, la, ma, gv, us, L, m1, m, rfl, _⟩ := h
    rfl
  · obtain ⟨D1, la, ma, gv, us, L, m1, m, rfl, hD1, nd1, l1, hla, hus, hma, nz, b1, b2, lL, hg, bq, wq, q⟩ := h
    refine ⟨_, (pss_cons (ps_set (i := 4) sc_u_repeats_for_ever.nd rfl (Or.inr rfl) (pe_own C_lane_visits hr (by first | decide | omega) (pa_cons (pv 1) (pa_cons (pv 2) pa_nil))))
      (pss_cons (ps_set (i := 5) sc_u_repeats_for_ever.nd rfl (Or.inr rfl) (pe_lock (pe_dcT (own := [("lane", 7)]) (g := gName 7) rfl hr.units0 sc_u_repeats_for_ever.nd (pi_keys (pv 4)) (blkOk_by (by rfl)) (fun _ _ _ _ _ => (pg_name (i := 7) sc_u_repeats_for_ever.nd rfl (Or.inl rfl))) (fun _ _ _ _ _ => (pv 7)) (fun _ _ _ _ _ => pe_dnewK))))
      (pss_cons (ps_lock (ps_for PassesOwn.never rfl (pi_keys (pv 0)) (pg_name (i := 6) sc_u_repeats_for_ever.nd rfl (Or.inl rfl))
      (pss_cons (ps_asg (pe_own C_lane_of hr (by first | decide | omega) (pa_cons (pv 6) (pa_cons (pv 2) pa_nil))) (pg_tup (by rfl) (pgs_cons (pg_name (i := 7) sc_u_repeats_for_ever.nd rfl (Or.inl rfl)) (pgs_cons (pg_name (i := 8) sc_u_repeats_for_ever.nd rfl (Or.inl rfl)) pgs_nil))))
      (pss_one (ps_if (pt_cmp (pc_din (hu_of hr) (pv 7) (pv 5))) (pss_one (ps_dput (hu_of hr) (pe_dget (hu_of hr) (pv 5) (pv 7) (fun _ _ => rfl)) (pv 8) (pe_dget (hu_of hr) (pv 0) (pv 6) (fun _ _ => rfl)) (by rfl))) pss_nil)))))
      (pss_one (ps_ret (pe_callB (k_all (K := K) rfl) (by rfl) T.m_all (by decide +kernel) (pa_cons (pe_lock (pe_lc (own := [("lane", 7)]) (g := gName 7) rfl sc_u_repeats_for_ever.nd (pi_keys (pv 4)) (blkOk_by (by rfl)) (fun _ _ _ _ _ => (pg_name (i := 7) sc_u_repeats_for_ever.nd rfl (Or.inl rfl))) (fun _ _ _ _ _ => pts_nil) (fun _ _ _ _ _ => (pe_own C_lane_repeats hr (by first | decide | omega) (pa_cons (pe_dget (hu_of hr) (pv 4) (pv 7) (fun _ _ => rfl)) (pa_cons (pe_dget (hu_of hr) (pv 5) (pv 7) (fun _ _ => rfl)) (pa_cons (pe_own C_lane_ground hr (by first | decide | omega) (pa_cons (pv 7) (pa_cons (pv 2) (pa_cons (pv 3) pa_nil)))) pa_nil))))))) pa_nil))))))), ?_⟩
    walk_at "st"
    intro D H1 lk vs kl nD nvs hV hmem llk s1
    have hD11 := s1 _ _ hD1
    have hVd := hV.dc
    walk_at "st"
    intro od
    have fD : (upd H1 D (.frz od (.dT (lk.map fun l => (ptK l, V.ref (vs l)))))) D = some (.frz od (.dT (lk.map fun l => (ptK l, V.ref (vs l))))) := upd_same
    have kF : ∀ b o, b ≠ D → H1 b = some o → (upd H1 D (.frz od (.dT (lk.map fun l => (ptK l, V.ref (vs l)))))) b = some o := fun b o n e => (upd_ne n).trans e
    have bF : ∀ b, (upd H1 D (.frz od (.dT (lk.map fun l => (ptK l, V.ref (vs l)))))) b = none → H1 b = none := fun b e => by
      by_cases z : b = D
      · rw [z, upd_same] at e
        cases e
      · rw [upd_ne z] at e
        exact e
    generalize hHf : upd H1 D (.frz od (.dT (lk.map fun l => (ptK l, V.ref (vs l))))) = Hf at *
    walk_at "st"
    refine .inr ⟨_, fD, ?_⟩
    intro C nC
    have nCD : C ≠ D := fun z => by
      rw [z, fD] at nC
      cases nC
    have nC1 := bF _ nC
    refine dcT_it (walk_keysT (d := D) (o := od) (kvs := lk.map fun l => (ptK l, V.ref (vs l)))) (fun i H' => Ok (∃ cs : Pt → Addr, LCol H' C m (lk.take i) cs [] ∧ (∀ l ∈ lk.take i, H1 (cs l) = none) ∧ ∀ b o, Hf b = some o → H' b = some o)) ⟨fun _ => 0, ⟨upd_same, List.nodup_nil, fun l hl => absurd hl List.not_mem_nil, fun l hl => absurd hl List.not_mem_nil, fun l hl => absurd hl List.not_mem_nil⟩, fun l hl => absurd hl List.not_mem_nil, fun b o e => (Same.new nC) _ _ e⟩ (fun i H' _ ⟨cs, _, _, sm⟩ => sm _ _ fD) ?_ ?_
    · rintro i x H' H2 hi ⟨cs, hC, hfr, sm⟩ ⟨rfl, k, v, qa, hk, rfl, hq⟩
      have hi : i < lk.length := by rw [List.length_map] at hi; exact hi
      have ei : lk[i]? = some lk[i] := List.getElem?_eq_getElem hi
      have tk1 := take_more ei
      have nli : lk[i] ∉ lk.take i := fun z => by
        obtain ⟨j, hj, e⟩ := List.mem_iff_getElem.mp z
        rw [List.getElem_take] at e
        rw [List.length_take] at hj
        have := (List.pairwise_iff_getElem.mp hV.nd) j i (by omega) hi (by omega)
        exact this e
      rw [List.getElem?_map, ei] at hk
      obtain ⟨rfl, rfl⟩ := Prod.mk.inj (Option.some.inj hk)
      generalize lk[i] = l at *
      walk_at "st"
      intro y ny
      have s3 : Same H2 (upd H2 y (.dK [])) := Same.new ny
      have hy : (upd H2 y (.dK [])) y = some (.dK []) := upd_same
      have yo : ∀ b o, H2 b = some o → b ≠ y := fun b o hb z => by
        rw [z, ny] at hb
        cases hb
      generalize hH3 : upd H2 y (.dK []) = H3 at *
      have hC3 := hC.same (H' := H3) fun b o e _ => s3 _ _ e
      have hq3 := s3 _ _ hq
      have hA := hC3.add nli hy (yo _ _ hC.dc).symm fun l' hl' => by
        obtain ⟨cl, h1, _⟩ := hC.co l' hl'
        exact yo _ _ h1
      refine ⟨_, ptK l, qa, rfl, hq3, hC3.dc, ?_, _, by rw [tk1]; exact hA, fun l' hl' => ?_, fun b o e => ?_⟩
      · rw [List.length_map, List.length_take]
        exact Nat.lt_of_le_of_lt (show _ ≤ 3000 by omega) (by decide)
      · rw [tk1] at hl'
        by_cases z : l' = l
        · rw [if_pos z]
          cases z2 : H1 y with
          | none => rfl
          | some o =>
            by_cases z3 : y = D
            · exact absurd z3.symm (yo _ _ (sm _ _ fD))
            · have := yo _ _ (sm _ _ (kF _ _ z3 z2))
              exact absurd rfl this
        · rw [if_neg z]
          rcases List.mem_append.mp hl' with g | g
          · exact hfr _ g
          · exact absurd (List.mem_singleton.mp g) z
      · have nb : b ≠ C := fun z => by
          rw [z, nC] at e
          cases e
        rw [upd_ne nb]
        exact s3 _ _ (sm _ _ e)
    · rintro H' ⟨cs, hC, hfr, sm⟩
      rw [List.length_map, List.take_length] at hC hfr
      have fD' := sm _ _ fD
      refine ⟨fD', ?_⟩
      have s2 : Same H1 (upd H' D (.dT (lk.map fun l => (ptK l, V.ref (vs l))))) := fun b o e => by
        by_cases z : b = D
        · rw [z, hVd] at e
          rw [z, upd_same, ← e]
        · rw [upd_ne z]
          exact sm _ _ (kF _ _ z e)
      have hC2 : LCol (upd H' D (.dT (lk.map fun l => (ptK l, V.ref (vs l))))) C m lk cs [] := hC.same fun b o e c => by
        refine (upd_ne fun z => ?_).trans e
        rcases c with c | ⟨l, hl, c⟩
        · exact nCD (c.symm.trans z)
        · have := hfr l hl
          rw [← c, z, hVd] at this
          cases this
      generalize hH2 : upd H' D (.dT (lk.map fun l => (ptK l, V.ref (vs l)))) = H2 at *
      have hD12 := s2 _ _ hD11
      walk_at "st"
      intro od2
      have fD1 : (upd H2 D1 (.frz od2 (.dT (cellK m1)))) D1 = some (.frz od2 (.dT (cellK m1))) := upd_same
      have kG : ∀ b o, b ≠ D1 → H2 b = some o → (upd H2 D1 (.frz od2 (.dT (cellK m1)))) b = some o := fun b o n e => (upd_ne n).trans e
      have csD1 : ∀ l ∈ lk, cs l ≠ D1 := fun l hl z => by
        have := hfr l hl
        rw [z, hD11] at this
        cases this
      have CD1 : C ≠ D1 := fun z => by
        rw [z, hD11] at nC1
        cases nC1
      have tk2 : TK H2 (upd H2 D1 (.frz od2 (.dT (cellK m1)))) := ⟨fun b xs e => kG b _ (fun z => by rw [z, hD12] at e; cases e) e, fun b o u e => kG b _ (fun z => by rw [z, hD12] at e; cases e) e⟩
      have hCg : LCol (upd H2 D1 (.frz od2 (.dT (cellK m1)))) C m lk cs [] := hC2.same fun b o e c => kG b o (fun z => by
        rcases c with c | ⟨l, hl, c⟩
        · exact CD1 (c.symm.trans z)
        · exact csD1 l hl (c.symm.trans z)) e
      generalize hHg : upd H2 D1 (.frz od2 (.dT (cellK m1))) = Hg at *
      have hrep := hV.rep
      walk_at "st"
      refine .inr ⟨_, fD1, ?_⟩
      refine for_it (walk_keysT (d := D1) (o := od2) (kvs := cellK m1)) (fun i σ H' => Ok (∃ y6 y7 y8 : Option V, σ = [some (.ref D1), some (.ref la), some (.ref ma), some gv, some (.ref D), some (.ref C), y6, y7, y8] ∧ LCol H' C m lk cs (m1.take i) ∧ ∀ b o, (∀ l ∈ lk, b ≠ cs l) → Hg b = some o → H' b = some o)) ⟨_, _, _, rfl, hCg, fun b o _ e => e⟩ (fun i σ H' _ ⟨_, _, _, _, _, sm⟩ => sm _ _ (fun l hl => (csD1 l hl).symm) fD1) ?_ ?_
      · rintro i x σ H' H3 hi ⟨y6, y7, y8, rfl, hCi, smi⟩ ⟨rfl, kk, v, qa, hk, rfl, hq⟩
        have hi : i < m1.length := by rw [cell_len] at hi; exact hi
        have e0 : (cellK m1)[i]? = some (ptK m1[i].1, V.int m1[i].2) := by
          unfold cellK
          rw [List.getElem?_map, List.getElem?_eq_getElem hi]
          rfl
        rw [e0] at hk
        obtain ⟨rfl, rfl⟩ := Prod.mk.inj (Option.some.inj hk)
        have hmm := List.getElem_mem hi
        have tk1 := take_more (List.getElem?_eq_getElem hi)
        have nqi : m1[i].1 ∉ (m1.take i).map (·.1) := fun z => by
          obtain ⟨j, hj, e⟩ := List.mem_iff_getElem.mp z
          rw [List.length_map, List.length_take] at hj
          rw [List.getElem_map, List.getElem_take] at e
          have := (List.pairwise_iff_getElem.mp nd1) j i (by rw [List.length_map]; omega) (by rw [List.length_map]; exact hi) (by omega)
          rw [List.getElem_map, List.getElem_map] at this
          exact this e
        have lk1 : look m1 m1[i].1 = some m1[i].2 := mem_look nd1 hmm
        generalize m1[i] = e at *
        obtain ⟨pq, c⟩ := e
        have hq : H3 qa = some (.tup [.int pq.1, .int pq.2]) := hq
        have hqS := SqT.of (K := K) hq
        have tkm : TK Hg H3 := ⟨fun b xs eb => smi b _ (fun l hl z => by
          obtain ⟨cl, h1, _⟩ := hCg.co l hl
          rw [z, h1] at eb
          cases eb) eb, fun b o u eb => smi b _ (fun l hl z => by
          obtain ⟨cl, h1, _⟩ := hCg.co l hl
          rw [z, h1] at eb
          cases eb) eb⟩
        have tk03 := TK.trans (Same.tk s1) (TK.trans (Same.tk s2) (TK.trans tk2 tkm))
        have hma3 := tk03.seqT hma
        walk_at "st"
        intro r lt H4 hr1 hlt s4
        have hr2 := SqT.of (K := K) hr1
        have hCi4 := hCi.same (H' := H4) fun b o eb _ => s4 _ _ eb
        have g4 : DGet H4 C (.ref lt) (valV (lk.map fun l => (ptK l, V.ref (cs l))) (ptK (lan pq m))) := DGet.t (k := ptK (lan pq m)) hCi4.dc hlt
        have f4 := s4 _ _ (smi _ _ (fun l hl => (csD1 l hl).symm) fD1)
        walk_at "st"
        refine ite2 (fun c1 => ?_) (fun c1 => ?_)
        · have hin : lan pq m ∈ lk := Classical.byContradiction fun z => by
            rw [valV_none.mpr fun y => z (ptK_ninj.mp y)] at c1
            cases c1
          obtain ⟨cl, h1, h2, h3, h5⟩ := hCi4.co _ hin
          have g5 := g4
          rw [lk_val _ hin] at g5
          have g6 : DGet H4 D1 (.ref qa) (some (.int c)) := .inr ⟨cellK m1, ptK pq, qa, .inr ⟨od2, f4⟩, rfl, s4 _ _ hq, by rw [cell_val, lk1]; rfl⟩
          have lcl : (colK cl).length < sizeLine := by
            show (cl.map _).length < _
            rw [List.length_map]
            have := List.length_take_le i m1
            exact Nat.lt_of_le_of_lt (show _ ≤ 3000 by omega) (by decide)
          have dp : DPut H4 (cs (lan pq m)) (.int (alo pq m)) (.int c) (upd H4 (cs (lan pq m)) (.dK (putK (colK cl) (Sum.inl (alo pq m)) (.int c)))) := DPut.k (k := Sum.inl (alo pq m)) h1 lcl
          have hP := hCi4.put nz hrep nqi hin (c := c) h1
          walk_at "st"
          refine ⟨_, _, _, rfl, by rw [tk1]; exact hP, fun b o hb eb => ?_⟩
          rw [upd_ne (hb _ hin)]
          exact s4 _ _ (smi _ _ hb eb)
        · have nin : lan pq m ∉ lk := fun z => c1 (by rw [lk_val _ z]; rfl)
          have hP := hCi4.skip nz hrep nqi nin (c := c)
          walk_at "st"
          exact ⟨_, _, _, rfl, by rw [tk1]; exact hP, fun b o hb eb => s4 _ _ (smi _ _ hb eb)⟩
      · rintro σ H' ⟨y6, y7, y8, rfl, hCi, smi⟩
        rw [cell_len, List.take_length] at hCi
        refine ⟨smi _ _ (fun l hl => (csD1 l hl).symm) fD1, ?_⟩
        have s5 : Same H1 (upd H' D1 (.dT (cellK m1))) := fun b o eb => by
          by_cases z : b = D1
          · rw [z, hD11] at eb
            rw [z, upd_same, ← eb]
          · rw [upd_ne z]
            refine smi _ _ (fun l hl y => ?_) (kG _ _ z (s2 _ _ eb))
            rw [y, hfr l hl] at eb
            cases eb
        have hC5 : LCol (upd H' D1 (.dT (cellK m1))) C m lk cs m1 := hCi.same fun b o eb c => (upd_ne fun z => by
          rcases c with c | ⟨l, hl, c⟩
          · exact CD1 (c.symm.trans z)
          · exact csD1 l hl (c.symm.trans z)).trans eb
        generalize hH5 : upd H' D1 (.dT (cellK m1)) = H5 at *
        have hV5 := hV.same s5
        have hVd5 := hV5.dc
        walk_at "st"
        intro od3
        have fD5 : (upd H5 D (.frz od3 (.dT (lk.map fun l => (ptK l, V.ref (vs l)))))) D = some (.frz od3 (.dT (lk.map fun l => (ptK l, V.ref (vs l))))) := upd_same
        have kF5 : ∀ b o, b ≠ D → H5 b = some o → (upd H5 D (.frz od3 (.dT (lk.map fun l => (ptK l, V.ref (vs l)))))) b = some o := fun b o n e => (upd_ne n).trans e
        have tk5 : TK H (upd H5 D (.frz od3 (.dT (lk.map fun l => (ptK l, V.ref (vs l)))))) := TK.trans (Same.tk (Same.trans s1 s5)) ⟨fun b xs e => kF5 b _ (fun z => by rw [z, hVd5] at e; cases e) e, fun b o u e => kF5 b _ (fun z => by rw [z, hVd5] at e; cases e) e⟩
        have csD : ∀ l ∈ lk, cs l ≠ D := fun l hl z => by
          have := hfr l hl
          rw [z, hVd] at this
          cases this
        have hCk : LCol (upd H5 D (.frz od3 (.dT (lk.map fun l => (ptK l, V.ref (vs l)))))) C m lk cs m1 := hC5.same fun b o e c => kF5 b o (fun z => by
          rcases c with c | ⟨l, hl, c⟩
          · exact nCD (c.symm.trans z)
          · exact csD l hl (c.symm.trans z)) e
        have hVk : ∀ l ∈ lk, VisD (upd H5 D (.frz od3 (.dT (lk.map fun l => (ptK l, V.ref (vs l)))))) (vs l) (kl l) (fun k => frd (visL L) (mvk l m k)) (fun k => lpt (visL L) (mvk l m k)) := fun l hl => (hV5.vis l hl).same fun b o e c => kF5 b o (fun z => by
          rcases c with c | ⟨xs, c⟩
          · exact hV5.ne l hl (c.symm.trans z)
          · rw [z, hVd5, c] at e
            cases e) e
        generalize hHk : upd H5 D (.frz od3 (.dT (lk.map fun l => (ptK l, V.ref (vs l))))) = Hk at *
        have hmak := tk5.seqT hma
        have hgk := Tp.mono tk5 _ _ hg
        walk_at "st"
        refine .inr ⟨_, fD5, ?_⟩
        intro G nG
        have nGD : G ≠ D := fun z => by
          rw [z, fD5] at nG
          cases nG
        refine lc_it (walk_keysT (d := D) (o := od3) (kvs := lk.map fun l => (ptK l, V.ref (vs l)))) (fun i H' => Ok (Same Hk H' ∧ ∃ bs : List Bool, H' G = some (.lst (bs.map V.bl)) ∧ bs.length = i ∧ (bs.all id = true ↔ ∀ l ∈ lk.take i, LaneOk (kl l) (fun k => frd (visL L) (mvk l m k)) (fun k => lpt (visL L) (mvk l m k)) (fun k => col m1 (mvk l m k))))) ⟨Same.new nG, [], upd_same, rfl, ⟨fun _ l hl => absurd hl List.not_mem_nil, fun _ => rfl⟩⟩ (fun i H' _ ⟨sm, _⟩ => sm _ _ fD5) ?_ ?_
        · rintro i x H' H3 hi ⟨s6, bs, hG, lbs, abs⟩ ⟨rfl, kk, v, qa, hk, rfl, hq⟩
          have hi : i < lk.length := by rw [List.length_map] at hi; exact hi
          have ei : lk[i]? = some lk[i] := List.getElem?_eq_getElem hi
          have tk1 := take_more ei
          have hin := List.getElem_mem hi
          rw [List.getElem?_map, ei] at hk
          obtain ⟨rfl, rfl⟩ := Prod.mk.inj (Option.some.inj hk)
          generalize lk[i] = l at *
          have hq : H3 qa = some (.tup [.int l.1, .int l.2]) := hq
          have hqS := SqT.of (K := K) hq
          have g1 : DGet H3 D (.ref qa) (some (.ref (vs l))) := .inr ⟨_, ptK l, qa, .inr ⟨od3, s6 _ _ fD5⟩, rfl, hq, (lk_val l hin).symm⟩
          have g2 : DGet H3 C (.ref qa) (some (.ref (cs l))) := by
            have z := DGet.t (k := ptK l) (s6 _ _ hCk.dc) hq
            rw [lk_val l hin] at z
            exact z
          have hma6 := (Same.tk s6).seqT hmak
          have hg6 := Tp.mono (Same.tk s6) _ _ hgk
          walk_at "st"
          intro O H7 nO hO s7
          have s67 := Same.trans s6 s7
          have v7 := (hVk l hin).same (H' := H7) fun b o e _ => s67 _ _ e
          have c7 : ColD H7 (cs l) (fun k => col m1 (mvk l m k)) := by
            obtain ⟨cl, h1, h2, h3, h4⟩ := hCk.co l hin
            refine ⟨cl, s67 _ _ h1, h2, by omega, fun j => ?_⟩
            show (look m1 (mvk l m j)).getD 0 = _
            rw [h4]
          have ksl := hV5.ks l hin
          have ne7 : kl l ≠ [] := fun z => by
            obtain ⟨e, he, ee⟩ := (hmem l).mp hin
            have := (ksl (alo e.1 m)).mpr (by rw [← ee, lan_back]; exact List.mem_map.mpr ⟨e, he, rfl⟩)
            rw [z] at this
            exact absurd this List.not_mem_nil
          have len7 : (kl l).length ≤ 4000 := by
            have := hV5.len l hin
            have e : (visL L).length = L.length := List.length_map _
            omega
          have wid7 : ∀ k ∈ kl l, ∀ k' ∈ kl l, k' - k ≤ 4000 := fun k hk k' hk' => by
            obtain ⟨z1, z2⟩ := wq _ ((ksl k).mp hk) _ ((ksl k').mp hk')
            have := mvk_wide nz z1 z2
            omega
          have bd7 : ∀ k ∈ kl l, -1000000000000 ≤ k ∧ k ≤ 1000000000000 := fun k hk => by
            obtain ⟨z1, z2⟩ := bq _ ((ksl k).mp hk)
            have := alo_le _ m z1 z2
            rw [alo_mvk nz, ← hV.rep l hin, alo_lan nz] at this
            omega
          walk_at "st"
          intro b H8 hb s8
          have s68 := Same.trans s67 s8
          have hG8 := (Same.trans s7 s8) _ _ hG
          have hsz : (bs.map V.bl).length < sizeLine := by
            rw [List.length_map]
            exact Nat.lt_of_le_of_lt (show _ ≤ 3000 by omega) (by decide)
          refine ⟨_, hG8, hsz, Same.fresh s68 nG, bs ++ [b], ?_, by rw [List.length_append]; show bs.length + 1 = i + 1; omega, ?_⟩
          · rw [upd_same, List.map_append]
            rfl
          · rw [tk1, List.all_append, Bool.and_eq_true, abs, List.all_cons, List.all_nil, Bool.and_true]
            show _ ∧ b = true ↔ _
            rw [hb]
            constructor
            · rintro ⟨z1, z2⟩ l' hl'
              rcases List.mem_append.mp hl' with y | y
              · exact z1 l' y
              · rw [List.mem_singleton.mp y]
                exact z2
            · intro z
              exact ⟨fun l' hl' => z l' (List.mem_append.mpr (.inl hl')), z l (List.mem_append.mpr (.inr (List.mem_singleton.mpr rfl)))⟩
        · rintro H' ⟨s6, bs, hG, lbs, abs⟩
          rw [List.length_map, List.take_length] at abs
          refine ⟨s6 _ _ fD5, ?_⟩
          have s9 : Same H1 (upd H' D (.dT (lk.map fun l => (ptK l, V.ref (vs l))))) := fun b o eb => by
            by_cases z : b = D
            · rw [z, hVd] at eb
              rw [z, upd_same, ← eb]
            · rw [upd_ne z]
              exact s6 _ _ (kF5 _ _ z (s5 _ _ eb))
          have hG9 : (upd H' D (.dT (lk.map fun l => (ptK l, V.ref (vs l))))) G = some (.lst (bs.map V.bl)) := (upd_ne nGD).trans hG
          have hSG := SqL.of (K := K) hG9
          walk_at "st"
          refine q _ _ ?_ (Same.trans s1 s9)
          rw [abs]
          exact lanes_iff nz hmem hV.ks
end

/-! ### what a right paper says, streets too -/
def told3 (T : List (List Ent)) (z : WSt) : Nat → List (Wk × Int × Int)
  | 0 => []
  | k + 1 => told3 T z k ++ (match runW T k z with | some y => [(y.2, y.1 (wPt y.2), ((entAt T y.2.2.2.2 (y.1 (wPt y.2))).map (·.1)).getD 0)] | none => [])
theorem told3_map (T : List (List Ent)) (z : WSt) : ∀ k, (told3 T z k).map tl3D = toldL T z k
  | 0 => rfl
  | k + 1 => by
    show (told3 T z k ++ _).map tl3D = toldL T z k ++ _
    rw [List.map_append, told3_map T z k]
    cases runW T k z <;> rfl
theorem told3_mem {T : List (List Ent)} {z : WSt} {e : Wk × Int × Int} : ∀ {k : Nat}, e ∈ told3 T z k → ∃ i y, i < k ∧ runW T i z = some y ∧ e = (y.2, y.1 (wPt y.2), ((entAt T y.2.2.2.2 (y.1 (wPt y.2))).map (·.1)).getD 0)
  | 0, h => absurd h List.not_mem_nil
  | k + 1, h => by
    rcases List.mem_append.mp (show e ∈ told3 T z k ++ _ from h) with h | h
    · obtain ⟨i, y, l, h1, h2⟩ := told3_mem h
      exact ⟨i, y, by omega, h1, h2⟩
    · cases q : runW T k z with
      | none =>
        rw [q] at h
        exact absurd h List.not_mem_nil
      | some y =>
        rw [q] at h
        exact ⟨k, y, Nat.lt_succ_self k, q, List.mem_singleton.mp h⟩
theorem told3_len {T : List (List Ent)} {z : WSt} : ∀ k, (told3 T z k).length ≤ k
  | 0 => Nat.le_refl _
  | k + 1 => by
    have ih := told3_len (T := T) (z := z) k
    show (told3 T z k ++ _).length ≤ k + 1
    rw [List.length_append]
    cases runW T k z with
    | none => exact Nat.le_trans ih (Nat.le_succ k)
    | some y => exact Nat.succ_le_succ ih
theorem step_near {T : List (List Ent)} {z z' : WSt} (h : stepW T z = some z') : (z'.2.1 - z.2.1).natAbs ≤ 1 ∧ (z'.2.2.1 - z.2.2.1).natAbs ≤ 1 := by
  unfold stepW at h
  cases he : entAt T z.2.2.2.2 (z.1 (wPt z.2)) with
  | none =>
    rw [he] at h
    cases h
  | some e =>
    rw [he] at h
    obtain rfl := (Option.some.inj h).symm
    obtain ⟨a1, a2⟩ := ahead1 (turnI z.2 e.2.1)
    show (z.2.1 + dxI (turnI z.2 e.2.1) - z.2.1).natAbs ≤ 1 ∧ (z.2.2.1 + dyI (turnI z.2 e.2.1) - z.2.2.1).natAbs ≤ 1
    omega
theorem run_near {T : List (List Ent)} {z : WSt} : ∀ {i : Nat} {z' : WSt}, runW T i z = some z' → (z'.2.1 - z.2.1).natAbs ≤ i ∧ (z'.2.2.1 - z.2.2.1).natAbs ≤ i
  | 0, z', h => by
    obtain rfl := Option.some.inj h
    omega
  | i + 1, z', h => by
    have h : (runW T i z).bind (stepW T) = some z' := h
    cases q : runW T i z with
    | none =>
      rw [q] at h
      cases h
    | some y =>
      rw [q] at h
      have h : stepW T y = some z' := h
      have a := run_near q
      have b := step_near h
      omega
def visOf (T : List (List Ent)) (z : WSt) (j : Nat) : Vis := visL (told3 T z j)
theorem visOf_near {T : List (List Ent)} {z : WSt} {j : Nat} {q : Pt} (h : q ∈ visP (visOf T z j)) : (q.1 - z.2.1).natAbs ≤ j ∧ (q.2 - z.2.2.1).natAbs ≤ j := by
  obtain ⟨e, he, rfl⟩ := List.mem_map.mp h
  obtain ⟨x, hx, rfl⟩ := List.mem_map.mp he
  obtain ⟨i, y, l, h1, rfl⟩ := told3_mem hx
  have := run_near h1
  show (y.2.1 - z.2.1).natAbs ≤ j ∧ (y.2.2.1 - z.2.2.1).natAbs ≤ j
  omega
def mvOf (z1 z2 : WSt) : Pt := (z2.2.1 - z1.2.1, z2.2.2.1 - z1.2.2.1)
def HoldsP (T : List (List Ent)) (p : Pap) (z1 z2 : WSt) (i j : Nat) : Prop := i = p.2.1 ∧ j = p.2.2 ∧ match p.1 with
  | .stops => stepW T z2 = none
  | .round => z2 = z1
  | .street => mvOf z1 z2 ≠ (0, 0) ∧ z2.2.2.2 = z1.2.2.2 ∧ StreetOk (visOf T z1 j) z1.1 (mvOf z1 z2)
def spHolds (K : PySem.W.Frag) (CC CS : Addr) : Sp := fun vs H Q _ => ∃ (c a D : Addr) (T : List (List Ent)) (p : Pap) (m0 m1 m2 : CM) (w0 w1 w2 : Wk) (i j cc n : Nat) (B : Int), vs = [.ref c] ∧ CrsAt K CC CS H c a D T p m0 m1 m2 w0 w1 w2 i j ∧ PapOk p ∧ TabOk cc n T ∧ Fit cc n B (col m1, w1) ∧ B ≤ 10000000000 ∧ m1.length ≤ 3000 ∧
  ∀ (b : Bool) (H' : Hp), (b = true ↔ HoldsP T p (col m1, w1) (col m2, w2) i j) → Same H H' → Q (.bl b) H'
theorem shpI (l : List Int) : SeqAt.shaped (.tuple (l.map PyData.int)) = true := by
  have f : flatT 2 (.tuple (l.map PyData.int)) := fun d hd => by
    obtain ⟨k, _, rfl⟩ := List.mem_map.mp hd
    trivial
  exact (f.shp (by decide)).1
theorem eqvI : ∀ (l m : List Int), PyData.eqvAll (l.map PyData.int) (m.map PyData.int) = decide (l = m)
  | [], [] => by simp [PyData.eqvAll]
  | [], _ :: _ => by simp [PyData.eqvAll]
  | _ :: _, [] => by simp [PyData.eqvAll]
  | a :: l, b :: m => by
    have ih := eqvI l m
    simp only [List.map_cons, PyData.eqvAll, ih]
    by_cases e : a = b
    · subst e
      simp [PyData.eqv]
    · simp [PyData.eqv, e]
theorem eqvT (l m : List Int) : PyData.eqv (.tuple (l.map PyData.int)) (.tuple (m.map PyData.int)) = decide (l = m) := by
  rw [← eqvI]
  simp [PyData.eqv]
theorem dpI {K : PySem.W.Frag} {H : Hp} {a : Addr} {l : List Int} (h : SqT K H a (l.map V.int)) : Dp K H (.ref a) (.tuple (l.map PyData.int)) := Tp.dp _ _ (Tp.of_ints h)
theorem slb4 {a b c d : V} : ¬ (HT.sIx ([a, b, c, d] : List V).length 0 (some 2) = 0 ∧ HT.sIx ([a, b, c, d] : List V).length ([a, b, c, d] : List V).length none = ([a, b, c, d] : List V).length) := by
  show ¬ (HT.sIx 4 0 (some 2) = 0 ∧ HT.sIx 4 4 none = 4)
  decide

/-! ### a paper holds -/
section
variable {P : Program} {w : World} {K : PySem.W.Frag} {mg : Str → Option Value} {base : Heap}
local macro_rules | `(tactic| walk_at "cl") => `(tactic| first | (refine le_only ?_; omega) | (refine lt_only ?_; omega) | assumption)
local macro_rules | `(tactic| walk_at "cl") => `(tactic| exact slb4)
theorem ok_Course_holds (T : Txt K mg) {CC CS : Addr} (SS : ClsS K mg CS) (S : ClsC K mg CC) (MH : MCal P w K mg base CS "has_stopped" 3 ["self"] (spStopped K CS)) (M : MetAt K CC "holds" "Course.holds" s_Course_holds ["self"]) (C_repeats_for_ever : Cal P w K mg base CX0 "_repeats_for_ever" 3 ["painted", "loop", "move", "ground"] (spRepeat K)) : MCal P w K mg base CC "holds" 4 ["self"] (spHolds K CC CS) := by
  obtain ⟨f, fd, me, F, b⟩ := M.meth
  refine ⟨f, fd, me, F.ok sc_Course_holds (fun vs H Q E h => ?_) (fun cdv A outer s H vs Q E hr h => ?_), b⟩
  · obtain ⟨c, a, D, T, p, m0, m1, m2, w0, w1, w2, i, j, cc, n, B, rfl, _⟩ := h
    rfl
  · obtain ⟨c, a, D, Tb, p, m0, m1, m2, w0, w1, w2, i, j, cc, n, B, rfl, hC, pok, ok, fit1, lB, lm1, q⟩ := h
    refine ⟨_, (pss_cons (ps_if (pt_cmpR op_lt (pe_callB (k_len_l (K := K)) (by rfl) T.m_len (by decide +kernel) (pa_cons (k_fld (K := K) (pv 0) (by rfl)) pa_nil)) (pe_op op_add (k_fld (K := K) (pv 0) (by rfl)) (k_fld (K := K) (pv 0) (by rfl))) (nomark _)) (pss_one (ps_ret pe_bl)) pss_nil)
      (pss_cons (ps_if (pt_cmpR op_eq (k_fld (K := K) (pv 0) (by rfl)) pe_str (nomark _)) (pss_one (ps_ret (pe_ownM0 MH SS.cl hr (by decide) (k_fld (K := K) (pv 0) (by rfl))))) pss_nil)
      (pss_cons (ps_if (pt_cmpR op_eq (k_fld (K := K) (pv 0) (by rfl)) pe_str (nomark _)) (pss_one (ps_ret (pe_and (pe_cmpR (k_eqD (K := K) hr.units) (k_fld (K := K) (pv 0) (by rfl)) (k_fld (K := K) (pv 0) (by rfl)) (nomark _)) (pe_one (pe_cmpR (op_eqT hr.units) (k_fld (K := K) (k_fld (K := K) (pv 0) (by rfl)) (by rfl)) (k_fld (K := K) (pv 0) (by rfl)) (nomark _)))))) pss_nil)
      (pss_cons (ps_if (PW.pt (pw_or (pt_cmpR (k_eqD (K := K) hr.units) (k_fld (K := K) (pv 0) (by rfl)) (pe_tup (pa_cons pe_int (pa_cons pe_int pa_nil))) (nomark _)) (pw_or1 (pt_cmpR (k_neD (K := K) hr.units) (pe_slice (k_sl_tup (K := K)) (k_fld (K := K) (pv 0) (by rfl)) (po_some pe_int) po_none) (pe_slice (k_sl_tup (K := K)) (k_fld (K := K) (pv 0) (by rfl)) (po_some pe_int) po_none) (nomark _))))) (pss_one (ps_ret pe_bl)) pss_nil)
      (pss_one (ps_ret (pe_own C_repeats_for_ever hr (by first | decide | omega) (pa_cons (k_fld (K := K) (pv 0) (by rfl)) (pa_cons (k_fld (K := K) (pv 0) (by rfl)) (pa_cons (k_fld (K := K) (pv 0) (by rfl)) (pa_cons (k_fld (K := K) (k_fld (K := K) (pv 0) (by rfl)) (by rfl)) pa_nil))))))))))), ?_⟩
    have cl := S.cl
    have cs := SS.cl
    have n2 := S.n2
    have n3 := S.n3
    have n1 := S.n1
    have n4 := S.n4
    have n6 := S.n6
    have n7 := S.n7
    have n9 := S.n9
    have n10 := S.n10
    have nP := SS.nP
    have fit := fit1.run ok hC.e2.run
    have n8 := S.n8
    have n11 := S.n11
    have nG := SS.nG
    obtain ⟨⟨dx, D0, D1, L2, L3, sv, ev, mv, us2, us3, hc, hsv, hev, hmv, hD0, hD1, hL2, htl2, hl2, hL3, htl3, hl3⟩, hS, he1, he2, nd0, nd1, nz0, nz1⟩ := hC
    obtain ⟨⟨dxs, tv, gv, wv, ea, _, hw, hgv⟩, hD, nd2, nz2⟩ := id hS
    have fP := lkP tv gv D wv
    have g1 := clk_kind (kd := .str p.1.nm) (f := p.2.1) (p := p.2.2) (a := a) (D0 := D0) (sv := sv) (D1 := D1) (L2 := L2) (ev := ev) (L3 := L3) (mv := mv)
    have g2 := clk_first (kd := .str p.1.nm) (f := p.2.1) (p := p.2.2) (a := a) (D0 := D0) (sv := sv) (D1 := D1) (L2 := L2) (ev := ev) (L3 := L3) (mv := mv)
    have g3 := clk_period (kd := .str p.1.nm) (f := p.2.1) (p := p.2.2) (a := a) (D0 := D0) (sv := sv) (D1 := D1) (L2 := L2) (ev := ev) (L3 := L3) (mv := mv)
    have g4 := clk_stroll (kd := .str p.1.nm) (f := p.2.1) (p := p.2.2) (a := a) (D0 := D0) (sv := sv) (D1 := D1) (L2 := L2) (ev := ev) (L3 := L3) (mv := mv)
    have g6 := clk_start (kd := .str p.1.nm) (f := p.2.1) (p := p.2.2) (a := a) (D0 := D0) (sv := sv) (D1 := D1) (L2 := L2) (ev := ev) (L3 := L3) (mv := mv)
    have g7 := clk_ahead (kd := .str p.1.nm) (f := p.2.1) (p := p.2.2) (a := a) (D0 := D0) (sv := sv) (D1 := D1) (L2 := L2) (ev := ev) (L3 := L3) (mv := mv)
    have g9 := clk_end (kd := .str p.1.nm) (f := p.2.1) (p := p.2.2) (a := a) (D0 := D0) (sv := sv) (D1 := D1) (L2 := L2) (ev := ev) (L3 := L3) (mv := mv)
    have g8 := clk_loop (kd := .str p.1.nm) (f := p.2.1) (p := p.2.2) (a := a) (D0 := D0) (sv := sv) (D1 := D1) (L2 := L2) (ev := ev) (L3 := L3) (mv := mv)
    have g11 := clk_move (kd := .str p.1.nm) (f := p.2.1) (p := p.2.2) (a := a) (D0 := D0) (sv := sv) (D1 := D1) (L2 := L2) (ev := ev) (L3 := L3) (mv := mv)
    have fG := lkG tv gv D wv
    have g10 := clk_steps (kd := .str p.1.nm) (f := p.2.1) (p := p.2.2) (a := a) (D0 := D0) (sv := sv) (D1 := D1) (L2 := L2) (ev := ev) (L3 := L3) (mv := mv)
    have noH : (strF tv gv D wv).lookup ("has_stopped" : Str) = none := lkNo _ _ _ _ (by decide +kernel)
    have le1 : i ≤ p.2.1 := he1.le
    have le2 : j ≤ p.2.2 := he2.le
    walk_at "st"
    refine ite2 (fun e => ?_) (fun e => ?_)
    · have e := of_decide_eq_true e
      refine q false _ (⟨(fun z => absurd z Bool.false_ne_true), (fun z => ?_)⟩ : _ ↔ _) (Same.refl H)
      exfalso
      have z1 := z.1
      have z2 := z.2.1
      omega
    · have e : ¬ _ := fun z => e (decide_eq_true z)
      have ei : i = p.2.1 := by omega
      have ej : j = p.2.2 := by omega
      obtain ⟨kd, fp, pp⟩ := p
      cases kd with
      | street =>
        obtain ⟨ma, rfl, hma⟩ := hmv.int2
        walk_at "st"
        intro p1 np1
        have s1 : Same H (upd H p1 (.tup [.int 0, .int 0])) := Same.new np1
        have hp1 : (upd H p1 (.tup [.int 0, .int 0])) p1 = some (.tup [.int 0, .int 0]) := upd_same
        generalize hH1 : upd H p1 (.tup [.int 0, .int 0]) = H1 at *
        have hma1 : SqT K H1 ma [.int (mvOf (col m1, w1) (col m2, w2)).1, .int (mvOf (col m1, w1) (col m2, w2)).2] := (Same.tk s1).seqT hma
        have e1 := dpI (l := [(mvOf (col m1, w1) (col m2, w2)).1, (mvOf (col m1, w1) (col m2, w2)).2]) hma1
        have e2 := dpI (K := K) (l := [0, 0]) (SqT.of hp1)
        have e3 := shpI [(mvOf (col m1, w1) (col m2, w2)).1, (mvOf (col m1, w1) (col m2, w2)).2]
        have e4 := shpI [0, 0]
        obtain ⟨ea', rfl, hea⟩ := hev.int4
        obtain ⟨sa', rfl, hsa⟩ := hsv.int4
        have hev1 := (Same.tk s1).seqT hea
        have hsv1 := (Same.tk s1).seqT hsa
        have c1 := s1 _ _ hc
        refine ⟨_, _, e1, e2, e3, e4, ?_⟩
        rw [eqvT]
        walk_at "st"
        refine ite2 (fun g => ?_) (fun g => ?_)
        · have g := of_decide_eq_true g
          walk_at "st"
          refine q false _ (⟨(fun z => absurd z Bool.false_ne_true), (fun z => ?_)⟩ : _ ↔ _) s1
          injection g with g3 g4
          injection g4 with g4
          exact absurd (Prod.ext g3 g4) z.2.2.1
        · have g : mvOf (col m1, w1) (col m2, w2) ≠ (0, 0) := fun z => g (by rw [z]; rfl)
          walk_at "st"
          intro p2 np2
          have s2 : Same H1 (upd H1 p2 (.tup (cutV [.int w2.1, .int w2.2.1, .int w2.2.2.1, .int w2.2.2.2] (some 2) none))) := Same.new np2
          have hp2 : (upd H1 p2 (.tup (cutV [.int w2.1, .int w2.2.1, .int w2.2.2.1, .int w2.2.2.2] (some 2) none))) p2 = some (.tup ([w2.2.2.1, w2.2.2.2].map V.int)) := upd_same
          generalize hH2 : upd H1 p2 (.tup (cutV [.int w2.1, .int w2.2.1, .int w2.2.2.1, .int w2.2.2.2] (some 2) none)) = H2 at *
          have c2 := s2 _ _ c1
          have hsv2 := (Same.tk s2).seqT hsv1
          walk_at "st"
          intro p3 np3
          have s3 : Same H2 (upd H2 p3 (.tup (cutV [.int w1.1, .int w1.2.1, .int w1.2.2.1, .int w1.2.2.2] (some 2) none))) := Same.new np3
          have hp3 : (upd H2 p3 (.tup (cutV [.int w1.1, .int w1.2.1, .int w1.2.2.1, .int w1.2.2.2] (some 2) none))) p3 = some (.tup ([w1.2.2.1, w1.2.2.2].map V.int)) := upd_same
          generalize hH3 : upd H2 p3 (.tup (cutV [.int w1.1, .int w1.2.1, .int w1.2.2.1, .int w1.2.2.2] (some 2) none)) = H3 at *
          have c3 := s3 _ _ c2
          have d3 := dpI (K := K) (SqT.of hp3)
          have d2 := dpI (K := K) (SqT.of (s3 _ _ hp2))
          have s03 := Same.trans s1 (Same.trans s2 s3)
          refine ⟨_, _, d2, d3, shpI _, shpI _, ?_⟩
          rw [eqvT]
          walk_at "st"
          have hrun := run_near he2.run
          have mb : (mvOf (col m1, w1) (col m2, w2)).1.natAbs ≤ 3000 ∧ (mvOf (col m1, w1) (col m2, w2)).2.natAbs ≤ 3000 := by
            have := pok.p2
            have hj : j ≤ pp := le2
            have h1 := hrun.1
            have h2 := hrun.2
            have hpp : pp ≤ 2000 := this
            exact ⟨Nat.le_trans h1 (by omega), Nat.le_trans h2 (by omega)⟩
          have jl : j ≤ 2000 := Nat.le_trans le2 pok.p2
          have fw := fit1.wk
          unfold InB wPt at fw
          have fw : (-B ≤ w1.1 ∧ w1.1 ≤ B) ∧ (-B ≤ w1.2.1 ∧ w1.2.1 ≤ B) := fw
          have bq : ∀ q ∈ visP (visL (told3 Tb (col m1, w1) j)), q.1.natAbs ≤ 100000000000 ∧ q.2.natAbs ≤ 100000000000 := fun q hq => by
            have z : (q.1 - w1.1).natAbs ≤ j ∧ (q.2 - w1.2.1).natAbs ≤ j := visOf_near hq
            omega
          have wq : ∀ q ∈ visP (visL (told3 Tb (col m1, w1) j)), ∀ q' ∈ visP (visL (told3 Tb (col m1, w1) j)), (q'.1 - q.1).natAbs ≤ 4000 ∧ (q'.2 - q.2).natAbs ≤ 4000 := fun q hq q' hq' => by
            have z : (q.1 - w1.1).natAbs ≤ j ∧ (q.2 - w1.2.1).natAbs ≤ j := visOf_near hq
            have z' : (q'.1 - w1.1).natAbs ≤ j ∧ (q'.2 - w1.2.1).natAbs ≤ j := visOf_near hq'
            omega
          have lt3 : (told3 Tb (col m1, w1) j).length ≤ 3000 := Nat.le_trans (told3_len j) (by omega)
          rw [← told3_map] at htl2
          have ea3 := s03 _ _ ea
          have D13 := s03 _ _ hD1
          have L23 := s03 _ _ hL2
          have tl3 := TpAll.mono (Same.tk s03) _ _ htl2
          have gv3 : Tp K H3 gv blankG := Tp.mono (Same.tk s03) _ _ hgv
          have ma3 := (Same.tk (Same.trans s2 s3)).seqT hma1
          refine ite2 (fun g2 => ?_) (fun g2 => ?_)
          · walk_at "st"
            refine q false _ (⟨(fun z => absurd z Bool.false_ne_true), (fun z => ?_)⟩ : _ ↔ _) s03
            have z2 : w2.2.2 = w1.2.2 := z.2.2.2.1
            rw [z2] at g2
            simp at g2
          · have g2 : w2.2.2 = w1.2.2 := by
              have g2 : decide ([w2.2.2.1, w2.2.2.2] = [w1.2.2.1, w1.2.2.2]) = true := by
                cases e : decide ([w2.2.2.1, w2.2.2.2] = [w1.2.2.1, w1.2.2.2]) with
                | true => rfl
                | false => exact absurd (by rw [e]; rfl) g2
              have g2 := of_decide_eq_true g2
              injection g2 with h1 h2
              injection h2 with h2
              exact Prod.ext h1 h2
            walk_at "st"
            intro b H4 hb s4
            exact q b H4 ⟨fun z => ⟨ei, ej, g, g2, hb.mp z⟩, fun z => hb.mpr z.2.2.2.2⟩ (Same.trans s03 s4)
      | stops =>
        walk_at "st"
        intro b H' hb s1
        exact q b H' ⟨fun z => ⟨ei, ej, hb.mp z⟩, fun z => hb.mpr z.2.2⟩ s1
      | round =>
        have d1 := Tp.dp _ _ hev
        have d2 := Tp.dp _ _ hsv
        have sh2 := shp_wk w2
        have sh1 := shp_wk w1
        have iv : ∀ m : CM, ∀ p ∈ cellK m, ∃ i, p.2 = V.int i := fun m p hp => by
          obtain ⟨e, _, rfl⟩ := List.mem_map.mp hp
          exact ⟨_, rfl⟩
        have iv2 := iv m2
        have iv1 := iv m1
        have ds := dict_same nd1 nd2 nz1 nz2
        walk_at "st"
        refine ite2 (fun e => ?_) (fun e => ?_)
        · have e := (eqv_wk _ _).mp e
          walk_at "st"
          intro r hr'
          refine q r H ⟨fun z => ⟨ei, ej, ?_⟩, fun z => ?_⟩ (Same.refl H)
          · show (col m2, w2) = (col m1, w1)
            rw [ds.mp (hr'.mp z), e]
          · exact hr'.mpr (ds.mpr (congrArg Prod.fst z.2.2))
        · refine q false H (⟨(fun z => absurd z Bool.false_ne_true), (fun z => ?_)⟩ : _ ↔ _) (Same.refl H)
          exact absurd ((eqv_wk _ _).mpr (congrArg Prod.snd z.2.2)) e
end

/-! ### a paper that holds -/
def HoldsAt (T : List (List Ent)) (z0 : WSt) (p : Pap) : Prop := ∃ z1 z2, Ends T z0 p.2.1 p.2.1 z1 ∧ Ends T z1 p.2.2 p.2.2 z2 ∧ HoldsP T p z1 z2 p.2.1 p.2.2
theorem HoldsAt.of {T : List (List Ent)} {z0 z1 z2 : WSt} {p : Pap} {i j : Nat} (e1 : Ends T z0 p.2.1 i z1) (e2 : Ends T z1 p.2.2 j z2) : HoldsP T p z1 z2 i j ↔ HoldsAt T z0 p := by
  constructor
  · intro h
    have h1 := h.1
    have h2 := h.2.1
    subst h1
    subst h2
    exact ⟨z1, z2, e1, e2, h⟩
  · rintro ⟨y1, y2, f1, f2, h⟩
    obtain ⟨a1, rfl⟩ := e1.uniq f1
    obtain ⟨a2, rfl⟩ := e2.uniq f2
    subst a1
    subst a2
    exact h
theorem tp_newF {K : PySem.W.Frag} {H : Hp} {p : Addr} {xs : List V} {ds : List PyData} (n : H p = none) (h : TpAll K H xs ds) : Tp K (upd H p (.tup xs)) (.ref p) (.tuple ds) := .tup (SqT.of upd_same) (TpAll.mono (TK.new n) _ _ h)

/-! ### what is told of a walk, in parts -/
theorem tlF_len {T : List (List Ent)} {z z' : WSt} : ∀ {i : Nat}, runW T i z = some z' → (toldL T z i).length = i
  | 0, _ => rfl
  | i + 1, h => by
    have h : (runW T i z).bind (stepW T) = some z' := h
    cases e : runW T i z with
    | none =>
      rw [e] at h
      cases h
    | some y =>
      show (toldL T z i ++ (match runW T i z with | some y => [toldD T y] | none => [])).length = _
      rw [e, List.length_append, tlF_len e]
      rfl
theorem tlF_at {T : List (List Ent)} {z : WSt} : ∀ {i : Nat} {z' : WSt}, runW T i z = some z' → ∀ j, j < i → ∃ y, runW T j z = some y ∧ (toldL T z i)[j]? = some (toldD T y)
  | 0, _, _, j, l => absurd l (Nat.not_lt_zero _)
  | i + 1, z', h, j, l => by
    have h : (runW T i z).bind (stepW T) = some z' := h
    cases e : runW T i z with
    | none =>
      rw [e] at h
      cases h
    | some y =>
      have ll := tlF_len e
      have ee : toldL T z (i + 1) = toldL T z i ++ [toldD T y] := by
        show toldL T z i ++ (match runW T i z with | some y => [toldD T y] | none => []) = _
        rw [e]
      rw [ee]
      rcases Nat.lt_or_ge j i with q | q
      · obtain ⟨x, h1, h2⟩ := tlF_at e j q
        exact ⟨x, h1, by rw [List.getElem?_append_left (by omega)]; exact h2⟩
      · obtain rfl : j = i := by omega
        refine ⟨y, e, ?_⟩
        rw [List.getElem?_append_right (by omega), ll, Nat.sub_self]
        rfl
theorem told3_snoc {T : List (List Ent)} {z y : WSt} {k : Nat} (h : runW T k z = some y) : told3 T z (k + 1) = told3 T z k ++ [(y.2, y.1 (wPt y.2), ((entAt T y.2.2.2.2 (y.1 (wPt y.2))).map (·.1)).getD 0)] := by
  show told3 T z k ++ _ = _
  rw [h]
theorem told3_app {T : List (List Ent)} {z z1 : WSt} {a : Nat} (h : runW T a z = some z1) : ∀ b, told3 T z (a + b) = told3 T z a ++ told3 T z1 b
  | 0 => (List.append_nil _).symm
  | b + 1 => by
    show told3 T z (a + b) ++ (match runW T (a + b) z with | some y => [(y.2, y.1 (wPt y.2), ((entAt T y.2.2.2.2 (y.1 (wPt y.2))).map (·.1)).getD 0)] | none => []) = told3 T z a ++ (told3 T z1 b ++ _)
    rw [told3_app h b, runW_add, h, List.append_assoc]
    rfl
theorem told3_full {T : List (List Ent)} {z z1 : WSt} {k : Nat} (h : runW T k z = some z1) : (told3 T z k).length = k := by
  have e := tlF_len h
  rw [← told3_map, List.length_map] at e
  exact e
theorem run_mid {T : List (List Ent)} {z z1 : WSt} {n k : Nat} (h : runW T k z = some z1) (l : n ≤ k) : ∃ y, runW T n z = some y ∧ runW T (k - n) y = some z1 := by
  rw [show k = n + (k - n) by omega, runW_add] at h
  cases e : runW T n z with
  | none =>
    rw [e] at h
    cases h
  | some y =>
    rw [e] at h
    exact ⟨y, rfl, h⟩
theorem told3_take {T : List (List Ent)} {z z1 : WSt} {n k : Nat} (h : runW T k z = some z1) (l : n ≤ k) : (told3 T z k).take n = told3 T z n := by
  obtain ⟨y, h1, h2⟩ := run_mid h l
  have e := told3_app h1 (k - n)
  rw [show n + (k - n) = k by omega] at e
  rw [e, List.take_append_of_le_length (by rw [told3_full h1]; exact Nat.le_refl n), List.take_of_length_le (by rw [told3_full h1]; exact Nat.le_refl n)]
theorem told3_near {T : List (List Ent)} {z z1 z2 : WSt} {a b n : Nat} (h1 : runW T a z = some z1) (h2 : runW T b z1 = some z2) (l : n ≤ a + b) : (told3 T z a ++ told3 T z1 b).take n = told3 T z n := by
  rw [← told3_app h1 b]
  exact told3_take (z1 := z2) (by rw [runW_add, h1]; exact h2) l

/-! ### stances; how far a list agrees with itself behind a shift -/
theorem k_revL {K : PySem.W.Frag} {X : Cx} {e : Expr} {te : TE} {k : Nat} {p1 p2 p3 pos : Pos} (he : PE X e te) (hK : X.K = K := by rfl) : PE X (.Subscript e (.Slice none none (some (.UnaryOp .USub (.Constant (.int 1) k p1) p2)) p3) pos) (tRevL K te) := hK ▸ pe_revL he
def stI (e : Wk × Int × Int) : List Int := [e.1.2.2.1, e.1.2.2.2, e.2.1]
def itD (l : List Int) : PyData := .tuple (l.map PyData.int)
def spStances (K : PySem.W.Frag) : Sp := fun vs H Q _ => ∃ (ta : Addr) (us : List V) (L : List (Wk × Int × Int)), vs = [.ref ta] ∧ H ta = some (.lst us) ∧ TpAll K H us (L.map tl3D) ∧ L.length ≤ 3000 ∧
  ∀ (S : Addr) (ws : List V) (H' : Hp), H S = none → H' S = some (.lst ws) → TpAll K H' ws ((L.map stI).map itD) → Same H H' → Q (.ref S) H'
/-- a is how many items from k on are as those from the first on -/
def ZOk (ls : List (List Int)) (k a : Nat) : Prop := k + a ≤ ls.length ∧ (∀ t, t < a → ls[t]? = ls[k + t]?) ∧ (k + a < ls.length → ls[a]? ≠ ls[k + a]?)
theorem zok_app {ls : List (List Int)} {as : List Nat} {i mn : Nat} (hz : ∀ k a, 1 ≤ k → as[k]? = some a → ZOk ls k a) (la : as.length = i + 1) (lz : ZOk ls (1 + i) mn) {k a : Nat} (h1 : 1 ≤ k) (h2 : (as ++ [mn])[k]? = some a) : ZOk ls k a := by
  rcases Nat.lt_or_ge k as.length with c | c
  · rw [List.getElem?_append_left c] at h2
    exact hz k a h1 h2
  · rw [List.getElem?_append_right c] at h2
    have hk : k = 1 + i := by
      rcases Nat.eq_or_lt_of_le c with z | z
      · omega
      · rw [List.getElem?_eq_none (by show 1 ≤ k - as.length; omega)] at h2
        cases h2
    subst hk
    rw [show 1 + i - as.length = 0 by omega] at h2
    have : mn = a := Option.some.inj h2
    subst this
    exact lz
def spAgree (K : PySem.W.Frag) : Sp := fun vs H Q _ => ∃ (ia : Addr) (ws : List V) (ls : List (List Int)) (most : Nat), vs = [.ref ia, .int (most : Int)] ∧ H ia = some (.lst ws) ∧ TpAll K H ws (ls.map itD) ∧ most ≤ ls.length ∧ ls.length ≤ 3000 ∧
  ∀ (A : Addr) (as : List Nat) (H' : Hp), H A = none → H' A = some (.lst (as.map fun a : Nat => V.int (a : Int))) → as.length = most + 1 → as[0]? = some ls.length → (∀ k a, 1 ≤ k → as[k]? = some a → ZOk ls k a) → Same H H' → Q (.ref A) H'
section
variable {P : Program} {w : World} {K : PySem.W.Frag} {mg : Str → Option Value} {base : Heap}
local macro_rules | `(tactic| walk_at "cl") => `(tactic| first | (refine le_only ?_; omega) | (refine lt_only ?_; omega) | assumption)
theorem ok_u_stances (T : Txt K mg) (D : DefAt K mg "_stances" s_u_stances ["told"]) : Cal P w K mg base CX0 "_stances" 1 ["told"] (spStances K) := by
  refine D.cal sc_u_stances (fun vs H Q E h => ?_) (fun f cdv A outer s H vs Q E hr h => ?_)
  · obtain ⟨ta, us, L, rfl, _⟩ := h
    rfl
  · obtain ⟨ta, us, L, rfl, hta, hus, lL, q⟩ := h
    refine ⟨_, (pss_one (ps_ret (pe_lc (own := [("walker", 1), ("colour", 2), ("_", 3)]) (g := gTup K 3 (gCons (gName 1) (gCons (gName 2) (gCons (gName 3) gNil)))) rfl sc_u_stances.nd (k_pi_list (K := K) (pv 0)) (blkOk_by (by rfl)) (fun _ _ _ _ _ => (k_pgT (K := K) 3 (by rfl) (pgs_cons (pg_name (i := 1) sc_u_stances.nd rfl (Or.inl rfl)) (pgs_cons (pg_name (i := 2) sc_u_stances.nd rfl (Or.inl rfl)) (pgs_cons (pg_name (i := 3) sc_u_stances.nd rfl (Or.inl rfl)) pgs_nil))))) (fun _ _ _ _ _ => pts_nil) (fun _ _ _ _ _ => (pe_tup (pa_cons (pe_ix (k_ix_tup (K := K)) (pv 1) pe_int (fun _ _ => rfl)) (pa_cons (pe_ix (k_ix_tup (K := K)) (pv 1) pe_int (fun _ _ => rfl)) (pa_cons (pv 2) pa_nil)))))))), ?_⟩
    have hSt := SqL.of (K := K) hta
    have lus : us.length = L.length := by rw [TpAll.length hus, List.length_map]
    walk_at "st"
    intro S nS
    refine lc_it (walk_list (K := K) (a := ta) (xs := us)) (fun i H' => Ok (Same H H' ∧ ∃ ws, H' S = some (.lst ws) ∧ ws.length = i ∧ TpAll K H' ws (((L.take i).map stI).map itD))) ⟨Same.new nS, [], upd_same, rfl, .nil⟩ (fun i H' _ ⟨sm, _⟩ => SqL.of (sm _ _ hta)) ?_ ?_
    · rintro i x H' H2 hi ⟨sm, ws, hS, lws, hws⟩ ⟨rfl, hx⟩
      have hiL : i < L.length := by omega
      have ei : L[i]? = some L[i] := List.getElem?_eq_getElem hiL
      have tk1 := take_more ei
      obtain ⟨u, eu, hu⟩ := hus.get (i := i) (d := tl3D L[i]) (by rw [List.getElem?_map, ei]; rfl)
      rw [hx] at eu
      cases eu
      generalize L[i] = e at *
      obtain ⟨wk, c, t⟩ := e
      have hu2 := Tp.mono (Same.tk sm) _ _ hu
      obtain ⟨xa, zs, rfl, hxa, hz⟩ := (show Tp K H2 x (.tuple [wkD wk, .int c, .int t]) from hu2).tupI
      obtain ⟨v1, zs, rfl, hv1, hz⟩ := hz.consI
      obtain ⟨v2, zs, rfl, hv2, hz⟩ := hz.consI
      obtain ⟨v3, zs, rfl, hv3, hz⟩ := hz.consI
      obtain rfl := hz.nilI
      obtain rfl := hv2.intI
      obtain rfl := hv3.intI
      obtain ⟨wa, rfl, hwa⟩ := (show Tp K H2 v1 (.tuple [.int wk.1, .int wk.2.1, .int wk.2.2.1, .int wk.2.2.2]) from hv1).int4
      have hsz : ws.length < sizeLine := Nat.lt_of_le_of_lt (show _ ≤ 3000 by omega) (by decide)
      walk_at "st"
      intro p np
      have s2 : Same H2 (upd H2 p (.tup [.int wk.2.2.1, .int wk.2.2.2, .int c])) := Same.new np
      have hS2 := s2 _ _ hS
      have tl := TK.lst (o := .lst (ws ++ [V.ref p])) hS2
      walk_at "st"
      refine ⟨Same.fresh (Same.trans sm s2) nS, ws ++ [.ref p], upd_same, by rw [List.length_append]; show _ + 1 = _; omega, ?_⟩
      rw [tk1, List.map_append, List.map_append]
      have f1 : Tp K (upd H2 p (.tup [.int wk.2.2.1, .int wk.2.2.2, .int c])) (.ref p) (itD (stI (wk, c, t))) := tp_newF (K := K) np (.cons (.int _) (.cons (.int _) (.cons (.int _) .nil)))
      exact TpAll.append (TpAll.mono (TK.trans (Same.tk s2) tl) _ _ hws) (.cons (Tp.mono tl _ _ f1) .nil)
    · rintro H' ⟨sm, ws, hS, lws, hws⟩
      rw [lus, List.take_length] at hws
      exact q S ws H' nS hS hws sm
theorem mono_ag {K : PySem.W.Frag} {σ : L2.St} {H : Hp} {Q Q' : Bool → Hp → Prop} (hq : ∀ b H1, Q b H1 → Q' b H1) (h : tAnd (tTest (tOp (rI0 fun i j => V.bl (decide (i < j))) (tOp (rI0 fun i j => V.int (i + j)) (tVar 5) (tVar 6)) (tCB (fun xs H Q => ∃ p ys, xs = [V.ref p] ∧ SqL K H p ys ∧ Q (V.int ↑ys.length) H) (tCons (tVar 0) tNil)))) (tTest (tOp (rEqD K) (tOp (rIxL K) (tVar 0) (tVar 6)) (tOp (rIxL K) (tVar 0) (tOp (rI0 fun i j => V.int (i + j)) (tVar 5) (tVar 6))))) σ H Q) : tAnd (tTest (tOp (rI0 fun i j => V.bl (decide (i < j))) (tOp (rI0 fun i j => V.int (i + j)) (tVar 5) (tVar 6)) (tCB (fun xs H Q => ∃ p ys, xs = [V.ref p] ∧ SqL K H p ys ∧ Q (V.int ↑ys.length) H) (tCons (tVar 0) tNil)))) (tTest (tOp (rEqD K) (tOp (rIxL K) (tVar 0) (tVar 6)) (tOp (rIxL K) (tVar 0) (tOp (rI0 fun i j => V.int (i + j)) (tVar 5) (tVar 6))))) σ H Q' := by
  obtain ⟨v5, e5, v6, e6, i1, j1, r1, r2, v0, e0, p, ys, r3, r4, i2, j2, r5, r6, k, ek, h⟩ := h
  refine ⟨v5, e5, v6, e6, i1, j1, r1, r2, v0, e0, p, ys, r3, r4, i2, j2, r5, r6, k, ek, ?_⟩
  cases k with
  | false => exact hq _ _ h
  | true =>
    obtain ⟨w0, g0, w6, g6, a1, x1, k1, y1, s1, s2, s3, s4, w1, g1, w5, g5, w7, g7, i3, j3, s5, s6, a2, x2, k2, y2, s7, s8, s9, t1, d1, d2, t2, t3, t4, t5, k3, t6, h⟩ := h
    exact ⟨w0, g0, w6, g6, a1, x1, k1, y1, s1, s2, s3, s4, w1, g1, w5, g5, w7, g7, i3, j3, s5, s6, a2, x2, k2, y2, s7, s8, s9, t1, d1, d2, t2, t3, t4, t5, k3, t6, hq _ _ h⟩
theorem ok_u_agreements (T : Txt K mg) (D : DefAt K mg "_agreements" s_u_agreements ["items", "most"]) : Cal P w K mg base CX0 "_agreements" 1 ["items", "most"] (spAgree K) := by
  refine D.cal sc_u_agreements (fun vs H Q E h => ?_) (fun f cdv A outer s H vs Q E hr h => ?_)
  · obtain ⟨ia, ws, ls, most, rfl, _⟩ := h
    rfl
  · obtain ⟨ia, ws, ls, most, rfl, hia, hws, lm, lls, q⟩ := h
    refine ⟨_, (pss_cons (ps_set (i := 2) sc_u_agreements.nd rfl (Or.inl rfl) (pe_lst (pa_cons (pe_callB (k_len_l (K := K)) (by rfl) T.m_len (by decide +kernel) (pa_cons (pv 0) pa_nil)) pa_nil)))
      (pss_cons (ps_asg2 pe_int (pg_name (i := 3) sc_u_agreements.nd rfl (Or.inl rfl)) (pg_name (i := 4) sc_u_agreements.nd rfl (Or.inl rfl)))
      (pss_cons (ps_for PassesOwn.never rfl (pi_range2 (by rfl) T.m_range (pa_cons pe_int (pa_cons (pe_op op_add (pv 1) pe_int) pa_nil))) (pg_name (i := 5) sc_u_agreements.nd rfl (Or.inl rfl))
      (pss_cons (ps_set (i := 6) sc_u_agreements.nd rfl (Or.inl rfl) (pe_ifExp (pt_cmpR op_lt (pv 5) (pv 4) (nomark _)) (pe_callB (call_min2 rfl) (by rfl) T.m_min (by decide +kernel) (pa_cons (pe_ix (k_ix_list (K := K)) (pv 2) (pe_op op_sub (pv 5) (pv 3)) (fun _ _ => rfl)) (pa_cons (pe_op op_sub (pv 4) (pv 5)) pa_nil))) pe_int))
      (pss_cons (ps_while PassesOwn.never (PW.pt (pw_and (pt_cmpR op_lt (pe_op op_add (pv 5) (pv 6)) (pe_callB (k_len_l (K := K)) (by rfl) T.m_len (by decide +kernel) (pa_cons (pv 0) pa_nil)) (nomark _)) (pw_and1 (pt_cmpR (k_eqD (K := K) hr.units) (pe_ix (k_ix_list (K := K)) (pv 0) (pv 6) (fun _ _ => rfl)) (pe_ix (k_ix_list (K := K)) (pv 0) (pe_op op_add (pv 5) (pv 6)) (fun _ _ => rfl)) (nomark _))))) (pss_one (ps_aug (i := 6) sc_u_agreements.nd rfl (Or.inl rfl) pe_int ip_add)))
      (pss_cons (ps_expr (pe_bm PySem.F.plainAttrs_list PySem.F.slot_list_append PySem.F.type_list_append mt_append (pv 2) (pa_cons (pv 6) pa_nil)))
      (pss_one (ps_if (pt_cmpR op_gt (pe_op op_add (pv 5) (pv 6)) (pv 4) (nomark _)) (pss_cons (ps_set (i := 3) sc_u_agreements.nd rfl (Or.inl rfl) (pv 5))
      (pss_one (ps_set (i := 4) sc_u_agreements.nd rfl (Or.inl rfl) (pe_op op_add (pv 5) (pv 6))))) pss_nil))))))
      (pss_one (ps_ret (pv 2)))))), ?_⟩
    have hSi := SqL.of (K := K) hia
    have lws : ws.length = ls.length := by rw [TpAll.length hws, List.length_map]
    walk_at "st"
    intro A nA
    have s1 : Same H (upd H A (.lst [.int (ws.length : Int)])) := Same.new nA
    have hA0 : (upd H A (.lst [.int (ws.length : Int)])) A = some (.lst [.int (ws.length : Int)]) := upd_same
    generalize hH1 : upd H A (.lst [.int (ws.length : Int)]) = H1 at *
    have hA1 := SqL.of (K := K) hA0
    walk_at "st"
    refine for_range (lo := 1) (n := ((most : Int) + 1 - 1).toNat) (fun i σ H' => Ok (∃ (lf rt : Nat) (y5 y6 : Option V) (as : List Nat), σ = [some (.ref ia), some (.int (most : Int)), some (.ref A), some (.int (lf : Int)), some (.int (rt : Int)), y5, y6] ∧ H' A = some (.lst (as.map fun a : Nat => V.int (a : Int))) ∧ as.length = i + 1 ∧ as[0]? = some ls.length ∧ (∀ k a, 1 ≤ k → as[k]? = some a → ZOk ls k a) ∧ lf ≤ i ∧ rt ≤ ls.length ∧ (lf = 0 → rt = 0) ∧ (∀ t, lf + t < rt → ls[t]? = ls[lf + t]?) ∧ Same H H')) ?_ ?_ ?_
    · refine ⟨0, 0, _, _, [ls.length], rfl, ?_, rfl, rfl, fun k a h1 h2 => ?_, Nat.le_refl _, Nat.zero_le _, fun _ => rfl, fun t h => absurd h (Nat.not_lt_zero _), s1⟩
      · rw [hA0, lws]
        rfl
      · rw [List.getElem?_eq_none (by show 1 ≤ k; exact h1)] at h2
        cases h2
    · rintro i σ H' hi ⟨lf, rt, y5, y6, as, rfl, hA, las, as0, hz, hlf, hrt, h0, hwin, sm⟩
      have hi : i < most := by omega
      have hSA := SqL.of (K := K) hA
      walk_at "st"
      refine ite2 (fun c0 => ?_) (fun c0 => ?_)
      · have c0 := of_decide_eq_true c0
        have lf1 : 1 ≤ lf := by
          rcases Nat.eq_zero_or_pos lf with z | z
          · have := h0 z
            omega
          · exact z
        have il : 1 + i - lf < as.length := by omega
        have eb : as[1 + i - lf]? = some as[1 + i - lf] := List.getElem?_eq_getElem il
        generalize as[1 + i - lf] = b at *
        obtain ⟨z1, z2, _⟩ := hz _ b (by omega) eb
        have ata : atI (as.map fun a : Nat => V.int (a : Int)) (1 + (i : Int) - (lf : Int)) = some (.int (b : Int)) := by
          rw [show 1 + (i : Int) - (lf : Int) = ((1 + i - lf : Nat) : Int) by omega]
          exact atI_nat (by rw [List.getElem?_map, eb]; rfl)
        obtain ⟨mn0, emn, lmn, mmn⟩ : ∃ mn0 : Nat, (if (rt : Int) - (1 + (i : Int)) < (b : Int) then (rt : Int) - (1 + (i : Int)) else (b : Int)) = (mn0 : Int) ∧ 1 + i + mn0 ≤ ls.length ∧ ∀ t, t < mn0 → ls[t]? = ls[1 + i + t]? := by
          refine ⟨min (rt - (1 + i)) b, by split <;> omega, by omega, fun t ht => ?_⟩
          have e1 := z2 t (by omega)
          have e2 := hwin (1 + i - lf + t) (by omega)
          rw [e1, e2]
          congr 1
          omega
        walk_at "st"
        rw [emn]
        walk_at "st"
        refine while_by (fun σ H5 => ∃ mn : Nat, σ = [some (.ref ia), some (.int (most : Int)), some (.ref A), some (.int (lf : Int)), some (.int (rt : Int)), some (.int (1 + (i : Int))), some (.int (mn : Int))] ∧ 1 + i + mn ≤ ls.length ∧ (∀ t, t < mn → ls[t]? = ls[1 + i + t]?) ∧ H5 = H') (fun (σ : L2.St) (_ : Hp) => match σ[6]? with | some (some (V.int k)) => ls.length - k.toNat | _ => 0) ?_ ?_ ?_
        · exact ⟨mn0, rfl, lmn, mmn, rfl⟩
        · rintro σ H5 ⟨mn, rfl, hmn, hmt, rfl⟩
          have hi5 := SqL.of (K := K) (sm _ _ hia)
          walk_at "st"
          refine ite2 (fun c1 => ?_) (fun c1 => ?_)
          · have c1 := of_decide_eq_true c1
            have l1 : mn < ls.length := by omega
            have l2 : 1 + i + mn < ls.length := by omega
            obtain ⟨u1, eu1, hu1⟩ := hws.get (i := mn) (d := itD ls[mn]) (by rw [List.getElem?_map, List.getElem?_eq_getElem l1]; rfl)
            obtain ⟨u2, eu2, hu2⟩ := hws.get (i := 1 + i + mn) (d := itD ls[1 + i + mn]) (by rw [List.getElem?_map, List.getElem?_eq_getElem l2]; rfl)
            have at1 : atI ws (mn : Int) = some u1 := atI_nat eu1
            have at2 : atI ws (1 + (i : Int) + (mn : Int)) = some u2 := by
              rw [show 1 + (i : Int) + (mn : Int) = ((1 + i + mn : Nat) : Int) by omega]
              exact atI_nat eu2
            have d1 := Tp.dp _ _ (Tp.mono (Same.tk sm) _ _ hu1)
            have d2 := Tp.dp _ _ (Tp.mono (Same.tk sm) _ _ hu2)
            have sh1 : SeqAt.shaped (itD ls[mn]) = true := shpI _
            have sh2 : SeqAt.shaped (itD ls[1 + i + mn]) = true := shpI _
            have eq12 : PyData.eqv (itD ls[mn]) (itD ls[1 + i + mn]) = decide (ls[mn] = ls[1 + i + mn]) := eqvT _ _
            walk_at "st"
            refine ite2 (fun c2 => ?_) (fun c2 => ?_)
            · have c2 : ls[mn] = ls[1 + i + mn] := of_decide_eq_true (eq12 ▸ c2)
              walk_at "st"
              refine ⟨⟨mn + 1, rfl, by omega, fun t ht => ?_, rfl⟩, ?_⟩
              · rcases Nat.lt_or_ge t mn with z | z
                · exact hmt t z
                · have : t = mn := by omega
                  subst this
                  rw [List.getElem?_eq_getElem l1, List.getElem?_eq_getElem l2, c2]
              · show ls.length - ((mn : Int) + 1).toNat < ls.length - (mn : Int).toNat
                omega
            · have c2 : ls[mn] ≠ ls[1 + i + mn] := fun z => c2 (eq12.trans (decide_eq_true z))
              have lz : ZOk ls (1 + i) mn := ⟨hmn, hmt, fun _ => by
                  rw [List.getElem?_eq_getElem l1, List.getElem?_eq_getElem l2]
                  exact fun z => c2 (Option.some.inj z)⟩
              have hszA : (as.map fun a : Nat => V.int (a : Int)).length < sizeLine := by
                rw [List.length_map, las]
                exact Nat.lt_of_le_of_lt (show _ ≤ 3000 by omega) (by decide)
              walk_at "st"
              refine ite2 (fun c3 => ?_) (fun c3 => ?_)
              · have c3 := of_decide_eq_true c3
                walk_at "st"
                refine ⟨1 + i, 1 + i + mn, _, _, as ++ [mn], rfl, ?_, by rw [List.length_append]; show as.length + 1 = _; omega, by rw [List.getElem?_append_left (by omega)]; exact as0, fun k a h1 h2 => ?_, by omega, by omega, fun z => by omega, fun t ht => hmt t (by omega), Same.fresh sm nA⟩
                · rw [upd_same, List.map_append]
                  rfl
                · exact zok_app hz las lz h1 h2
              · walk_at "st"
                refine ⟨lf, rt, _, _, as ++ [mn], rfl, ?_, by rw [List.length_append]; show as.length + 1 = _; omega, by rw [List.getElem?_append_left (by omega)]; exact as0, fun k a h1 h2 => ?_, by omega, hrt, h0, hwin, Same.fresh sm nA⟩
                · rw [upd_same, List.map_append]
                  rfl
                · exact zok_app hz las lz h1 h2
          · have c1 : ¬ _ := fun z => c1 (decide_eq_true z)
            have lz : ZOk ls (1 + i) mn := ⟨hmn, hmt, fun z => absurd z (by omega)⟩
            have hszA : (as.map fun a : Nat => V.int (a : Int)).length < sizeLine := by
              rw [List.length_map, las]
              exact Nat.lt_of_le_of_lt (show _ ≤ 3000 by omega) (by decide)
            walk_at "st"
            refine ite2 (fun c3 => ?_) (fun c3 => ?_)
            · have c3 := of_decide_eq_true c3
              walk_at "st"
              refine ⟨1 + i, 1 + i + mn, _, _, as ++ [mn], rfl, ?_, by rw [List.length_append]; show as.length + 1 = _; omega, by rw [List.getElem?_append_left (by omega)]; exact as0, fun k a h1 h2 => ?_, by omega, by omega, fun z => by omega, fun t ht => hmt t (by omega), Same.fresh sm nA⟩
              · rw [upd_same, List.map_append]
                rfl
              · exact zok_app hz las lz h1 h2
            · walk_at "st"
              refine ⟨lf, rt, _, _, as ++ [mn], rfl, ?_, by rw [List.length_append]; show as.length + 1 = _; omega, by rw [List.getElem?_append_left (by omega)]; exact as0, fun k a h1 h2 => ?_, by omega, hrt, h0, hwin, Same.fresh sm nA⟩
              · rw [upd_same, List.map_append]
                rfl
              · exact zok_app hz las lz h1 h2
        · intro σ H Q Q' hq h
          exact mono_ag hq h
      · have c0 : ¬ _ := fun z => c0 (decide_eq_true z)
        walk_at "st"
        refine while_by (fun σ H5 => ∃ mn : Nat, σ = [some (.ref ia), some (.int (most : Int)), some (.ref A), some (.int (lf : Int)), some (.int (rt : Int)), some (.int (1 + (i : Int))), some (.int (mn : Int))] ∧ 1 + i + mn ≤ ls.length ∧ (∀ t, t < mn → ls[t]? = ls[1 + i + t]?) ∧ H5 = H') (fun (σ : L2.St) (_ : Hp) => match σ[6]? with | some (some (V.int k)) => ls.length - k.toNat | _ => 0) ?_ ?_ ?_
        · exact ⟨0, rfl, by omega, fun t h => absurd h (Nat.not_lt_zero _), rfl⟩
        · rintro σ H5 ⟨mn, rfl, hmn, hmt, rfl⟩
          have hi5 := SqL.of (K := K) (sm _ _ hia)
          walk_at "st"
          refine ite2 (fun c1 => ?_) (fun c1 => ?_)
          · have c1 := of_decide_eq_true c1
            have l1 : mn < ls.length := by omega
            have l2 : 1 + i + mn < ls.length := by omega
            obtain ⟨u1, eu1, hu1⟩ := hws.get (i := mn) (d := itD ls[mn]) (by rw [List.getElem?_map, List.getElem?_eq_getElem l1]; rfl)
            obtain ⟨u2, eu2, hu2⟩ := hws.get (i := 1 + i + mn) (d := itD ls[1 + i + mn]) (by rw [List.getElem?_map, List.getElem?_eq_getElem l2]; rfl)
            have at1 : atI ws (mn : Int) = some u1 := atI_nat eu1
            have at2 : atI ws (1 + (i : Int) + (mn : Int)) = some u2 := by
              rw [show 1 + (i : Int) + (mn : Int) = ((1 + i + mn : Nat) : Int) by omega]
              exact atI_nat eu2
            have d1 := Tp.dp _ _ (Tp.mono (Same.tk sm) _ _ hu1)
            have d2 := Tp.dp _ _ (Tp.mono (Same.tk sm) _ _ hu2)
            have sh1 : SeqAt.shaped (itD ls[mn]) = true := shpI _
            have sh2 : SeqAt.shaped (itD ls[1 + i + mn]) = true := shpI _
            have eq12 : PyData.eqv (itD ls[mn]) (itD ls[1 + i + mn]) = decide (ls[mn] = ls[1 + i + mn]) := eqvT _ _
            walk_at "st"
            refine ite2 (fun c2 => ?_) (fun c2 => ?_)
            · have c2 : ls[mn] = ls[1 + i + mn] := of_decide_eq_true (eq12 ▸ c2)
              walk_at "st"
              refine ⟨⟨mn + 1, rfl, by omega, fun t ht => ?_, rfl⟩, ?_⟩
              · rcases Nat.lt_or_ge t mn with z | z
                · exact hmt t z
                · have : t = mn := by omega
                  subst this
                  rw [List.getElem?_eq_getElem l1, List.getElem?_eq_getElem l2, c2]
              · show ls.length - ((mn : Int) + 1).toNat < ls.length - (mn : Int).toNat
                omega
            · have c2 : ls[mn] ≠ ls[1 + i + mn] := fun z => c2 (eq12.trans (decide_eq_true z))
              have lz : ZOk ls (1 + i) mn := ⟨hmn, hmt, fun _ => by
                  rw [List.getElem?_eq_getElem l1, List.getElem?_eq_getElem l2]
                  exact fun z => c2 (Option.some.inj z)⟩
              have hszA : (as.map fun a : Nat => V.int (a : Int)).length < sizeLine := by
                rw [List.length_map, las]
                exact Nat.lt_of_le_of_lt (show _ ≤ 3000 by omega) (by decide)
              walk_at "st"
              refine ite2 (fun c3 => ?_) (fun c3 => ?_)
              · have c3 := of_decide_eq_true c3
                walk_at "st"
                refine ⟨1 + i, 1 + i + mn, _, _, as ++ [mn], rfl, ?_, by rw [List.length_append]; show as.length + 1 = _; omega, by rw [List.getElem?_append_left (by omega)]; exact as0, fun k a h1 h2 => ?_, by omega, by omega, fun z => by omega, fun t ht => hmt t (by omega), Same.fresh sm nA⟩
                · rw [upd_same, List.map_append]
                  rfl
                · exact zok_app hz las lz h1 h2
              · walk_at "st"
                refine ⟨lf, rt, _, _, as ++ [mn], rfl, ?_, by rw [List.length_append]; show as.length + 1 = _; omega, by rw [List.getElem?_append_left (by omega)]; exact as0, fun k a h1 h2 => ?_, by omega, hrt, h0, hwin, Same.fresh sm nA⟩
                · rw [upd_same, List.map_append]
                  rfl
                · exact zok_app hz las lz h1 h2
          · have c1 : ¬ _ := fun z => c1 (decide_eq_true z)
            have lz : ZOk ls (1 + i) mn := ⟨hmn, hmt, fun z => absurd z (by omega)⟩
            have hszA : (as.map fun a : Nat => V.int (a : Int)).length < sizeLine := by
              rw [List.length_map, las]
              exact Nat.lt_of_le_of_lt (show _ ≤ 3000 by omega) (by decide)
            walk_at "st"
            refine ite2 (fun c3 => ?_) (fun c3 => ?_)
            · have c3 := of_decide_eq_true c3
              walk_at "st"
              refine ⟨1 + i, 1 + i + mn, _, _, as ++ [mn], rfl, ?_, by rw [List.length_append]; show as.length + 1 = _; omega, by rw [List.getElem?_append_left (by omega)]; exact as0, fun k a h1 h2 => ?_, by omega, by omega, fun z => by omega, fun t ht => hmt t (by omega), Same.fresh sm nA⟩
              · rw [upd_same, List.map_append]
                rfl
              · exact zok_app hz las lz h1 h2
            · walk_at "st"
              refine ⟨lf, rt, _, _, as ++ [mn], rfl, ?_, by rw [List.length_append]; show as.length + 1 = _; omega, by rw [List.getElem?_append_left (by omega)]; exact as0, fun k a h1 h2 => ?_, by omega, hrt, h0, hwin, Same.fresh sm nA⟩
              · rw [upd_same, List.map_append]
                rfl
              · exact zok_app hz las lz h1 h2
        · intro σ H Q Q' hq h
          exact mono_ag hq h
    · rintro σ H' ⟨lf, rt, y5, y6, as, rfl, hA, las, as0, hz, hlf, hrt, h0, hwin, sm⟩
      walk_at "st"
      exact q A as H' nA hA (by omega) as0 hz sm
end

/-! ### likely periods -/
def asA (as : List Nat) (k : Nat) : Nat := (as[k]?).getD 0
def mulOf (as ps : List Nat) (k : Nat) : Bool := ps.any fun s => decide (k % s = 0 ∧ k ≤ s + asA as s)
def likely (as : List Nat) : Nat → List Nat
  | 0 => []
  | k + 1 => likely as k ++ (if k + 1 ≤ asA as (k + 1) ∧ mulOf as (likely as k) (k + 1) = false then [k + 1] else [])
theorem likely_mem {as : List Nat} {p : Nat} : ∀ {n : Nat}, p ∈ likely as n → 1 ≤ p ∧ p ≤ n ∧ p ≤ asA as p
  | 0, h => absurd h List.not_mem_nil
  | n + 1, h => by
    rcases List.mem_append.mp (show p ∈ likely as n ++ _ from h) with h | h
    · have := likely_mem h
      omega
    · split at h
      · rename_i c
        rw [List.mem_singleton.mp h]
        exact ⟨by omega, Nat.le_refl _, c.1⟩
      · exact absurd h List.not_mem_nil
theorem likely_len {as : List Nat} : ∀ n, (likely as n).length ≤ n
  | 0 => Nat.le_refl _
  | n + 1 => by
    have := likely_len (as := as) n
    show (likely as n ++ _).length ≤ n + 1
    rw [List.length_append]
    split
    · show _ + 1 ≤ _
      omega
    · show _ + 0 ≤ _
      omega
def nIV (ns : List Nat) : List V := ns.map fun a : Nat => V.int (a : Int)
def spLikelyP (K : PySem.W.Frag) : Sp := fun vs H Q _ => ∃ (A : Addr) (as : List Nat), vs = [.ref A] ∧ H A = some (.lst (nIV as)) ∧ as.length ≤ 3000 ∧
  ∀ (P : Addr) (H' : Hp), H P = none → H' P = some (.lst (nIV (likely as (as.length - 1)))) → Same H H' → Q (.ref P) H'
section
variable {P : Program} {w : World} {K : PySem.W.Frag} {mg : Str → Option Value} {base : Heap}
local macro_rules | `(tactic| walk_at "cl") => `(tactic| first | (refine le_only ?_; omega) | (refine lt_only ?_; omega) | assumption)
theorem ok_u_likely_periods (T : Txt K mg) (D : DefAt K mg "_likely_periods" s_u_likely_periods ["agree"]) : Cal P w K mg base CX0 "_likely_periods" 1 ["agree"] (spLikelyP K) := by
  refine D.cal sc_u_likely_periods (fun vs H Q E h => ?_) (fun f cdv A outer s H vs Q E hr h => ?_)
  · obtain ⟨A, as, rfl, _⟩ := h
    rfl
  · obtain ⟨A, as, rfl, hA, las, q⟩ := h
    refine ⟨_, (pss_cons (ps_set (i := 1) sc_u_likely_periods.nd rfl (Or.inl rfl) (pe_lst pa_nil))
      (pss_cons (ps_for PassesOwn.never rfl (pi_range2 (by rfl) T.m_range (pa_cons pe_int (pa_cons (pe_callB (k_len_l (K := K)) (by rfl) T.m_len (by decide +kernel) (pa_cons (pv 0) pa_nil)) pa_nil))) (pg_name (i := 2) sc_u_likely_periods.nd rfl (Or.inr rfl))
      (pss_cons (ps_set (i := 3) sc_u_likely_periods.nd rfl (Or.inl rfl) (pe_callB (k_any (K := K) rfl) (by rfl) T.m_any (by decide +kernel) (pa_cons (pe_lc (own := [("short", 4)]) (g := gName 4) rfl sc_u_likely_periods.nd (k_pi_list (K := K) (pv 1)) (blkOk_by (by rfl)) (fun _ _ _ _ _ => (pg_name (i := 4) sc_u_likely_periods.nd rfl (Or.inl rfl))) (fun _ _ _ _ _ => pts_nil) (fun _ _ _ _ _ => (pe_and (pe_cmpR op_eq (pe_op op_mod (pv 2) (pv 4)) pe_int (nomark _)) (pe_one (pe_cmpR op_ge (pe_op op_add (pv 4) (pe_ix (k_ix_list (K := K)) (pv 0) (pv 4) (fun _ _ => rfl))) (pv 2) (nomark _)))))) pa_nil)))
      (pss_one (ps_if (PW.pt (pw_and (pt_cmpR op_ge (pe_ix (k_ix_list (K := K)) (pv 0) (pv 2) (fun _ _ => rfl)) (pv 2) (nomark _)) (pw_and1 (pt_not (pt_truth (pv 3) (by intro _; rfl)))))) (pss_one (ps_expr (pe_bm PySem.F.plainAttrs_list PySem.F.slot_list_append PySem.F.type_list_append mt_append (pv 1) (pa_cons (pv 2) pa_nil)))) pss_nil))))
      (pss_one (ps_ret (pv 1))))), ?_⟩
    walk_at "st"
    intro P0 nP
    have s1 : Same H (upd H P0 (.lst [])) := Same.new nP
    have hP : (upd H P0 (.lst [])) P0 = some (.lst []) := upd_same
    generalize hH1 : upd H P0 (.lst []) = H1 at *
    have hSA := SqL.of (K := K) (s1 _ _ hA)
    have hl : (nIV as).length = as.length := List.length_map _
    walk_at "st"
    refine for_range (lo := 1) (n := (((nIV as).length : Int) - 1).toNat) (fun i σ H' => Ok (∃ (y2 y3 y4 : Option V), σ = [some (.ref A), some (.ref P0), y2, y3, y4] ∧ H' P0 = some (.lst (nIV (likely as i))) ∧ Same H H')) ?_ ?_ ?_
    · exact ⟨_, _, _, rfl, hP, s1⟩
    · rintro i σ H' hi ⟨y2, y3, y4, rfl, hPi, sm⟩
      have hl : (nIV as).length = as.length := List.length_map _
      have hiA : 1 + i < as.length := by omega
      have hS1 := SqL.of (K := K) hPi
      have hA1 := SqL.of (K := K) (sm _ _ hA)
      have ata : ∀ k, k < as.length → atI (nIV as) (k : Int) = some (.int (asA as k : Nat)) := fun k hk => atI_nat (by
        unfold nIV asA
        rw [List.getElem?_map, List.getElem?_eq_getElem hk]
        rfl)
      walk_at "st"
      intro M nM
      have lp := likely_len (as := as) i
      refine lc_it (walk_list (K := K) (a := P0) (xs := nIV (likely as i))) (fun j H2 => Ok (Same H' H2 ∧ H2 M = some (.lst ((((likely as i).take j).map fun s => decide ((1 + i) % s = 0 ∧ 1 + i ≤ s + asA as s)).map V.bl)))) ⟨Same.new nM, upd_same⟩ (fun j H2 _ ⟨s2, _⟩ => SqL.of (s2 _ _ hPi)) ?_ ?_
      · rintro j x H2 H3 hj ⟨s2, hM⟩ ⟨rfl, hx⟩
        have hj : j < (likely as i).length := by
          unfold nIV at hj
          rw [List.length_map] at hj
          exact hj
        have ej : (likely as i)[j]? = some (likely as i)[j] := List.getElem?_eq_getElem hj
        have tk1 := take_more ej
        have hmm := likely_mem (List.getElem_mem hj)
        unfold nIV at hx
        rw [List.getElem?_map, ej] at hx
        obtain rfl := (Option.some.inj hx).symm
        generalize (likely as i)[j] = k at *
        have A3 := SqL.of (K := K) (s2 _ _ (sm _ _ hA))
        have at3 := ata k (by omega)
        have kp : (0 : Int) < (k : Int) := by omega
        have hsz : ((((likely as i).take j).map fun s => decide ((1 + i) % s = 0 ∧ 1 + i ≤ s + asA as s)).map V.bl).length < sizeLine := by
          rw [List.length_map, List.length_map]
          have h2 := List.length_take_le j (likely as i)
          exact Nat.lt_of_le_of_lt (show _ ≤ 3000 by omega) (by decide)
        have em : (1 + (i : Int)) % (k : Int) = (((1 + i) % k : Nat) : Int) := by
          rw [show 1 + (i : Int) = ((1 + i : Nat) : Int) by omega]
          rfl
        have fin : ∀ b : Bool, b = decide ((1 + i) % k = 0 ∧ 1 + i ≤ k + asA as k) → (upd H3 M (.lst (((((likely as i).take j).map fun s => decide ((1 + i) % s = 0 ∧ 1 + i ≤ s + asA as s)).map V.bl) ++ [V.bl b]))) M = some (.lst ((((likely as i).take (j + 1)).map fun s => decide ((1 + i) % s = 0 ∧ 1 + i ≤ s + asA as s)).map V.bl)) := fun b hb => by
          rw [upd_same, tk1, hb, List.map_append, List.map_append]
          rfl
        walk_at "st"
        refine ite2 (fun c => ?_) (fun c => ?_)
        · have c : (1 + i) % k = 0 := by
            have z := of_decide_eq_true c
            injection z with z
            rw [em] at z
            omega
          walk_at "st"
          refine ⟨Same.fresh s2 nM, fin _ ?_⟩
          rw [Bool.eq_iff_iff, decide_eq_true_iff, decide_eq_true_iff]
          exact ⟨fun z => ⟨c, by omega⟩, fun z => by have := z.2; omega⟩
        · have c : ¬ (1 + i) % k = 0 := fun z => c (decide_eq_true (by show V.int ((1 + (i : Int)) % (k : Int)) = V.int 0; rw [em, z]; rfl))
          walk_at "st"
          refine ⟨Same.fresh s2 nM, fin _ ?_⟩
          rw [decide_eq_false (fun y => c y.1)]
      · rintro H2 ⟨s2, hM⟩
        have ll : (nIV (likely as i)).length = (likely as i).length := List.length_map _
        rw [ll, List.take_length] at hM
        have hSM := SqL.of (K := K) hM
        have A2 := SqL.of (K := K) (s2 _ _ (sm _ _ hA))
        have P2 := s2 _ _ hPi
        have at2 : atI (nIV as) (1 + (i : Int)) = some (.int (asA as (1 + i) : Nat)) := by
          rw [show 1 + (i : Int) = ((1 + i : Nat) : Int) by omega]
          exact ata _ hiA
        have em : (((likely as i).map fun s => decide ((1 + i) % s = 0 ∧ 1 + i ≤ s + asA as s)).any id) = mulOf as (likely as i) (i + 1) := by
          unfold mulOf
          rw [List.any_map, Nat.add_comm 1 i]
          rfl
        have hszP : (nIV (likely as i)).length < sizeLine := by
          rw [ll]
          exact Nat.lt_of_le_of_lt (show _ ≤ 3000 by omega) (by decide)
        have stop : ∀ P, ¬ (i + 1 ≤ asA as (i + 1) ∧ mulOf as (likely as i) (i + 1) = false) → H2 P0 = some (HO.lst P) → P = nIV (likely as i) → H2 P0 = some (HO.lst (nIV (likely as (i + 1)))) := fun P h h1 h2 => by
          show H2 P0 = some (HO.lst (nIV (likely as i ++ _)))
          rw [if_neg h, List.append_nil, h1, h2]
        walk_at "st"
        rw [em]
        generalize hmu : mulOf as (likely as i) (i + 1) = mu at *
        refine ite2 (fun c => ?_) (fun c => ?_)
        · have c := of_decide_eq_true c
          walk_at "st"
          refine ite2 (fun c2 => ?_) (fun c2 => ?_)
          · have c2 : (!mu) = true := by
              rw [← em]
              exact c2
            have c2 : mu = false := by
              cases mu with
              | false => rfl
              | true => cases c2
            walk_at "st"
            refine ⟨_, _, _, rfl, ?_, Same.fresh (Same.trans sm s2) nP⟩
            rw [upd_same]
            show _ = some (HO.lst (nIV (likely as i ++ _)))
            rw [if_pos ⟨by rw [Nat.add_comm i 1]; omega, by rw [hmu, c2]⟩]
            unfold nIV
            rw [List.map_append]
            show some (HO.lst (_ ++ [V.int (1 + (i : Int))])) = some (HO.lst (_ ++ [V.int ((i + 1 : Nat) : Int)]))
            rw [show 1 + (i : Int) = ((i + 1 : Nat) : Int) by omega]
          · have c2 : ¬ mu = false := fun z => c2 (by rw [em, z]; rfl)
            walk_at "st"
            exact ⟨_, _, _, rfl, stop _ (fun z => c2 z.2) P2 rfl, Same.trans sm s2⟩
        · have c : ¬ _ := fun z => c (decide_eq_true z)
          walk_at "st"
          exact ⟨_, _, _, rfl, stop _ (fun z => c (by have := z.1; rw [Nat.add_comm 1 i]; omega)) P2 rfl, Same.trans sm s2⟩
    · rintro σ H' ⟨y2, y3, y4, rfl, hPi, sm⟩
      have hl : (nIV as).length = as.length := List.length_map _
      walk_at "st"
      rw [show (((nIV as).length : Int) - 1).toNat = as.length - 1 by omega] at hPi
      exact q P0 H' nP hPi sm
end

/-! ### likely papers -/
theorem tpAll_rev {K : PySem.W.Frag} {H : Hp} : ∀ {vs : List V} {ds : List PyData}, TpAll K H vs ds → TpAll K H vs.reverse ds.reverse
  | _, _, .nil => .nil
  | _, _, .cons (v := v) (vs := vs) (d := d) (ds := ds) h r => by
    rw [List.reverse_cons, List.reverse_cons]
    exact TpAll.append (tpAll_rev r) (.cons h .nil)
def plA (L : List (Wk × Int × Int)) (k : Nat) : Option Pt := (L[k]?).map fun e => wPt e.1
def papOf1 (L : List (Wk × Int × Int)) (as : List Nat) (most : Int) (p : Nat) : List Pap :=
  if plA L (L.length - p - asA as p) = plA L (L.length - p - asA as p + p) then [(.round, L.length - p - asA as p, p)] else if (p : Int) ≤ most then [(.street, L.length - p - asA as p, p)] else []
def papsOf (L : List (Wk × Int × Int)) (as : List Nat) (most : Int) : List Nat → List Pap
  | [] => []
  | p :: r => papOf1 L as most p ++ papsOf L as most r
theorem papsOf_app {L : List (Wk × Int × Int)} {as : List Nat} {most : Int} {p : Nat} : ∀ {ps : List Nat}, papsOf L as most (ps ++ [p]) = papsOf L as most ps ++ papOf1 L as most p
  | [] => by
    show papOf1 L as most p ++ [] = [] ++ _
    rw [List.append_nil, List.nil_append]
  | x :: r => by
    show papOf1 L as most x ++ papsOf L as most (r ++ [p]) = (papOf1 L as most x ++ papsOf L as most r) ++ _
    rw [papsOf_app, List.append_assoc]
def zMost (L : List (Wk × Int × Int)) : Nat := min 2000 (L.length / 2)
structure ZsOk (L : List (Wk × Int × Int)) (as : List Nat) : Prop where
  len : as.length = zMost L + 1
  z0 : as[0]? = some L.length
  z : ∀ k a, 1 ≤ k → as[k]? = some a → ZOk (L.map stI).reverse k a
theorem paps_ok {L : List (Wk × Int × Int)} {as : List Nat} {most : Int} (h : ZsOk L as) (lL : L.length ≤ 3000) {n : Nat} (hn : n + 1 = as.length) {p : Pap} : ∀ {ps : List Nat}, (∀ k ∈ ps, k ∈ likely as n) → p ∈ papsOf L as most ps → PapOk p ∧ p.1 ≠ .stops ∧ (p.1 = .street → (p.2.2 : Int) ≤ most) ∧ p.2.1 + p.2.2 < L.length
  | [], _, hp => absurd hp List.not_mem_nil
  | k :: r, hk, hp => by
    rcases List.mem_append.mp (show p ∈ papOf1 L as most k ++ _ from hp) with hp | hp
    · obtain ⟨k1, k2, k3⟩ := likely_mem (hk k List.mem_cons_self)
      have hl := h.len
      have kl : k < as.length := by omega
      have ek : as[k]? = some as[k] := List.getElem?_eq_getElem kl
      have ez := (h.z k _ k1 ek).1
      rw [List.length_reverse, List.length_map] at ez
      have ea : asA as k = as[k] := by
        unfold asA
        rw [ek]
        rfl
      rw [← ea] at ez
      have k2000 : k ≤ 2000 := by
        have : zMost L ≤ 2000 := Nat.min_le_left _ _
        omega
      unfold papOf1 at hp
      split at hp
      · rw [List.mem_singleton.mp hp]
        exact ⟨⟨by show L.length - k - asA as k ≤ 100000; omega, fun z => (by cases z), fun _ => k1, k2000⟩, fun z => (by cases z), fun z => (by cases z), by show L.length - k - asA as k + k < L.length; omega⟩
      · split at hp
        · rename_i c
          rw [List.mem_singleton.mp hp]
          exact ⟨⟨by show L.length - k - asA as k ≤ 100000; omega, fun z => (by cases z), fun _ => k1, k2000⟩, fun z => (by cases z), fun _ => c, by show L.length - k - asA as k + k < L.length; omega⟩
        · exact absurd hp List.not_mem_nil
    · exact paps_ok h lL hn (fun x hx => hk x (List.mem_cons_of_mem _ hx)) hp
def spPapers (K : PySem.W.Frag) : Sp := fun vs H Q _ => ∃ (ta : Addr) (us : List V) (L : List (Wk × Int × Int)) (most : Int), vs = [.ref ta, .int most] ∧ H ta = some (.lst us) ∧ TpAll K H us (L.map tl3D) ∧ L.length ≤ 3000 ∧
  ∀ (P : Addr) (ws : List V) (H' : Hp) (as : List Nat), H P = none → H' P = some (.lst ws) → TpAll K H' ws ((papsOf L as most (likely as (as.length - 1))).map papD) → ZsOk L as → Same H H' → Q (.ref P) H'
section
variable {P : Program} {w : World} {K : PySem.W.Frag} {mg : Str → Option Value} {base : Heap}
local macro_rules | `(tactic| walk_at "cl") => `(tactic| first | (refine le_only ?_; omega) | (refine lt_only ?_; omega) | assumption)
theorem ok_u_likely_papers (T : Txt K mg) (D : DefAt K mg "_likely_papers" s_u_likely_papers ["told", "most"]) (C_stances : Cal P w K mg base CX0 "_stances" 1 ["told"] (spStances K)) (C_agreements : Cal P w K mg base CX0 "_agreements" 1 ["items", "most"] (spAgree K)) (C_likely_periods : Cal P w K mg base CX0 "_likely_periods" 1 ["agree"] (spLikelyP K)) : Cal P w K mg base CX0 "_likely_papers" 2 ["told", "most"] (spPapers K) := by
  refine D.cal sc_u_likely_papers (fun vs H Q E h => ?_) (fun f cdv A outer s H vs Q E hr h => ?_)
  · obtain ⟨ta, us, L, most, rfl, _⟩ := h
    rfl
  · obtain ⟨ta, us, L, most, rfl, hta, hus, lL, q⟩ := h
    refine ⟨_, (pss_cons (ps_set (i := 2) sc_u_likely_papers.nd rfl (Or.inl rfl) (pe_own C_agreements hr (by first | decide | omega) (pa_cons (k_revL (K := K) (pe_own C_stances hr (by first | decide | omega) (pa_cons (pv 0) pa_nil))) (pa_cons (pe_callB (call_min2 rfl) (by rfl) T.m_min (by decide +kernel) (pa_cons (pe_gint (by rfl) T.longest_period) (pa_cons (pe_op op_fdivW (pe_callB (k_len_l (K := K)) (by rfl) T.m_len (by decide +kernel) (pa_cons (pv 0) pa_nil)) pe_int) pa_nil))) pa_nil))))
      (pss_cons (ps_set (i := 3) sc_u_likely_papers.nd rfl (Or.inl rfl) (pe_lst pa_nil))
      (pss_cons (ps_for PassesOwn.never rfl (k_pi_list (K := K) (pe_own C_likely_periods hr (by first | decide | omega) (pa_cons (pv 2) pa_nil))) (pg_name (i := 4) sc_u_likely_papers.nd rfl (Or.inl rfl))
      (pss_cons (ps_set (i := 5) sc_u_likely_papers.nd rfl (Or.inl rfl) (pe_op op_sub (pe_op op_sub (pe_callB (k_len_l (K := K)) (by rfl) T.m_len (by decide +kernel) (pa_cons (pv 0) pa_nil)) (pv 4)) (pe_ix (k_ix_list (K := K)) (pv 2) (pv 4) (fun _ _ => rfl))))
      (pss_one (ps_if (pt_cmpR (k_eqD (K := K) hr.units) (pe_slice (k_sl_tup (K := K)) (pe_ix (k_ix_tup (K := K)) (pe_ix (k_ix_list (K := K)) (pv 0) (pv 5) (fun _ _ => rfl)) pe_int (fun _ _ => rfl)) po_none (po_some pe_int)) (pe_slice (k_sl_tup (K := K)) (pe_ix (k_ix_tup (K := K)) (pe_ix (k_ix_list (K := K)) (pv 0) (pe_op op_add (pv 5) (pv 4)) (fun _ _ => rfl)) pe_int (fun _ _ => rfl)) po_none (po_some pe_int)) (nomark _)) (pss_one (ps_expr (pe_bm PySem.F.plainAttrs_list PySem.F.slot_list_append PySem.F.type_list_append mt_append (pv 3) (pa_cons (pe_tup (pa_cons pe_str (pa_cons (pv 5) (pa_cons (pv 4) pa_nil)))) pa_nil)))) (pss_one (ps_if (pt_cmpR op_le (pv 4) (pv 1) (nomark _)) (pss_one (ps_expr (pe_bm PySem.F.plainAttrs_list PySem.F.slot_list_append PySem.F.type_list_append mt_append (pv 3) (pa_cons (pe_tup (pa_cons pe_str (pa_cons (pv 5) (pa_cons (pv 4) pa_nil)))) pa_nil)))) pss_nil))))))
      (pss_one (ps_ret (pv 3)))))), ?_⟩
    have hSt := SqL.of (K := K) hta
    have lus : us.length = L.length := by rw [TpAll.length hus, List.length_map]
    walk_at "st"
    intro S ws H1 nS hS hws s1
    walk_at "st"
    intro p1 np1
    have s2 : Same H1 (upd H1 p1 (.lst ws.reverse)) := Same.new np1
    have hp1 : (upd H1 p1 (.lst ws.reverse)) p1 = some (.lst ws.reverse) := upd_same
    generalize hH2 : upd H1 p1 (.lst ws.reverse) = H2 at *
    have s02 := Same.trans s1 s2
    have hSt2 := SqL.of (K := K) (s02 _ _ hta)
    have dv : CDivW (us.length : Int) 2 := ⟨by decide, by decide⟩
    have hrv := tpAll_rev (TpAll.mono (Same.tk s2) _ _ hws)
    rw [← List.map_reverse] at hrv
    have ez : (if (us.length : Int) / 2 < 2000 then (us.length : Int) / 2 else 2000) = ((zMost L : Nat) : Int) := by
      unfold zMost
      rw [lus]
      split <;> omega
    have zl : zMost L ≤ (L.map stI).reverse.length := by
      rw [List.length_reverse, List.length_map]
      unfold zMost
      omega
    have l3 : (L.map stI).reverse.length ≤ 3000 := by
      rw [List.length_reverse, List.length_map]
      exact lL
    walk_at "st"
    refine ⟨congrArg (fun z => [V.ref p1, V.int z]) ez, hp1, hrv, zl, l3, ?_⟩
    intro A as H3 nA hA las as0 hz s3
    have zs : ZsOk L as := ⟨las, by rw [as0, List.length_reverse, List.length_map], hz⟩
    walk_at "st"
    intro P0 nP
    have s4 : Same H3 (upd H3 P0 (.lst [])) := Same.new nP
    have hP0 : (upd H3 P0 (.lst [])) P0 = some (.lst []) := upd_same
    have s04 := Same.trans s02 (Same.trans s3 s4)
    have nP0 : H P0 = none := Same.back (Same.trans s02 s3) nP
    generalize hH4 : upd H3 P0 (.lst []) = H4 at *
    have hA4 : H4 A = some (.lst (nIV as)) := s4 _ _ hA
    have las3 : as.length ≤ 3000 := by
      have : zMost L ≤ 2000 := Nat.min_le_left _ _
      omega
    walk_at "st"
    intro PP H5 nPP hPP s5
    have s05 := Same.trans s04 s5
    have hP5 := s5 _ _ hP0
    have hSPP := SqL.of (K := K) hPP
    have hA5 := s5 _ _ hA4
    have nPA : A ≠ P0 := fun z => by
      rw [z] at hA
      rw [hA] at nP
      cases nP
    have nPPP : PP ≠ P0 := fun z => by
      rw [z, hP0] at nPP
      cases nPP
    walk_at "st"
    refine for_list (K := K) (a := PP) (xs := nIV (likely as (as.length - 1))) (fun i σ H' => Ok (∃ (y4 y5 : Option V) (vs : List V), σ = [some (.ref ta), some (.int most), some (.ref A), some (.ref P0), y4, y5] ∧ H' P0 = some (.lst vs) ∧ TpAll K H' vs ((papsOf L as most ((likely as (as.length - 1)).take i)).map papD) ∧ vs.length ≤ i ∧ H' A = some (.lst (nIV as)) ∧ H' PP = some (.lst (nIV (likely as (as.length - 1)))) ∧ Same H H'))
      ⟨_, _, [], rfl, hP5, .nil, Nat.le_refl _, hA5, hPP, s05⟩ (fun i σ H' _ ⟨_, _, _, _, _, _, _, _, h, _⟩ => SqL.of h) ?_ ?_
    · rintro i x σ H' hx ⟨y4, y5, vs, rfl, hv, htv, lv, hAi, hPi, sm⟩
      have hiL : i < (likely as (as.length - 1)).length := by
        have := (List.getElem?_eq_some_iff.mp hx).1
        unfold nIV at this
        rw [List.length_map] at this
        exact this
      have ei : (likely as (as.length - 1))[i]? = some (likely as (as.length - 1))[i] := List.getElem?_eq_getElem hiL
      have tk1 := take_more ei
      have hmm := likely_mem (List.getElem_mem hiL)
      have lp := likely_len (as := as) (as.length - 1)
      unfold nIV at hx
      rw [List.getElem?_map, ei] at hx
      obtain rfl := (Option.some.inj hx).symm
      generalize (likely as (as.length - 1))[i] = k at *
      obtain ⟨k1, k2, k3⟩ := hmm
      have kl : k < as.length := by omega
      have ek : as[k]? = some (asA as k) := by
        unfold asA
        rw [List.getElem?_eq_getElem kl]
        rfl
      have ez1 := (hz k _ k1 ek).1
      rw [List.length_reverse, List.length_map] at ez1
      have ata : atI (nIV as) (k : Int) = some (.int (asA as k : Nat)) := atI_nat (by
        unfold nIV
        rw [List.getElem?_map, ek]
        rfl)
      have hSA := SqL.of (K := K) hAi
      have hSti := SqL.of (K := K) (sm _ _ hta)
      obtain ⟨F, eF⟩ : ∃ F, F = L.length - k - asA as k := ⟨_, rfl⟩
      have eFi : (us.length : Int) - (k : Int) - ((asA as k : Nat) : Int) = (F : Int) := by omega
      have f1 : F < L.length := by omega
      have f2 : F + k < L.length := by omega
      have getw : ∀ j (hj : j < L.length), ∃ xa wa c t, us[j]? = some (.ref xa) ∧ SqT K H xa [.ref wa, .int c, .int t] ∧ SqT K H wa [.int L[j].1.1, .int L[j].1.2.1, .int L[j].1.2.2.1, .int L[j].1.2.2.2] := fun j hj => by
        obtain ⟨u, eu, hu⟩ := hus.get (i := j) (d := tl3D L[j]) (by rw [List.getElem?_map, List.getElem?_eq_getElem hj]; rfl)
        obtain ⟨xa, zs, rfl, hxa, hz⟩ := (show Tp K H u (.tuple [wkD L[j].1, .int L[j].2.1, .int L[j].2.2]) from hu).tupI
        obtain ⟨v1, zs, rfl, hv1, hz⟩ := hz.consI
        obtain ⟨v2, zs, rfl, hv2, hz⟩ := hz.consI
        obtain ⟨v3, zs, rfl, hv3, hz⟩ := hz.consI
        obtain rfl := hz.nilI
        obtain rfl := hv2.intI
        obtain rfl := hv3.intI
        obtain ⟨wa, rfl, hwa⟩ := (show Tp K H v1 (.tuple [.int L[j].1.1, .int L[j].1.2.1, .int L[j].1.2.2.1, .int L[j].1.2.2.2]) from hv1).int4
        exact ⟨xa, wa, _, _, eu, hxa, hwa⟩
      obtain ⟨x1, w1, c1, t1, eu1, hx1, hw1⟩ := getw F f1
      obtain ⟨x2, w2, c2, t2, eu2, hx2, hw2⟩ := getw (F + k) f2
      have at1 : atI us ((us.length : Int) - (k : Int) - ((asA as k : Nat) : Int)) = some (.ref x1) := by
        rw [eFi]
        exact atI_nat eu1
      have at2 : atI us ((us.length : Int) - (k : Int) - ((asA as k : Nat) : Int) + (k : Int)) = some (.ref x2) := by
        rw [eFi]
        exact atI_nat (j := F + k) eu2
      have pl1 : plA L F = some (wPt L[F].1) := by
        unfold plA
        rw [List.getElem?_eq_getElem f1]
        rfl
      have pl2 : plA L (F + k) = some (wPt L[F + k].1) := by
        unfold plA
        rw [List.getElem?_eq_getElem f2]
        rfl
      generalize L[F].1 = v1 at *
      generalize L[F + k].1 = v2 at *
      have hx1i := (Same.tk sm).seqT hx1
      have hw1i := (Same.tk sm).seqT hw1
      walk_at "st"
      intro q1 nq1
      have s6 : Same H' (upd H' q1 (.tup (cutV [.int v1.1, .int v1.2.1, .int v1.2.2.1, .int v1.2.2.2] none (some 2)))) := Same.new nq1
      have hq1 : (upd H' q1 (.tup (cutV [.int v1.1, .int v1.2.1, .int v1.2.2.1, .int v1.2.2.2] none (some 2)))) q1 = some (.tup ([v1.1, v1.2.1].map V.int)) := upd_same
      generalize hH6 : upd H' q1 (.tup (cutV [.int v1.1, .int v1.2.1, .int v1.2.2.1, .int v1.2.2.2] none (some 2))) = H6 at *
      have hx2i := (Same.tk (Same.trans sm s6)).seqT hx2
      have hw2i := (Same.tk (Same.trans sm s6)).seqT hw2
      have hSt6 := SqL.of (K := K) ((Same.trans sm s6) _ _ hta)
      walk_at "st"
      intro q2 nq2
      have s7 : Same H6 (upd H6 q2 (.tup (cutV [.int v2.1, .int v2.2.1, .int v2.2.2.1, .int v2.2.2.2] none (some 2)))) := Same.new nq2
      have hq2 : (upd H6 q2 (.tup (cutV [.int v2.1, .int v2.2.1, .int v2.2.2.1, .int v2.2.2.2] none (some 2)))) q2 = some (.tup ([v2.1, v2.2.1].map V.int)) := upd_same
      generalize hH7 : upd H6 q2 (.tup (cutV [.int v2.1, .int v2.2.1, .int v2.2.2.1, .int v2.2.2.2] none (some 2))) = H7 at *
      have d1 := dpI (K := K) (SqT.of (s7 _ _ hq1))
      have d2 := dpI (K := K) (SqT.of hq2)
      have sh1 := shpI [v1.1, v1.2.1]
      have sh2 := shpI [v2.1, v2.2.1]
      have s67 := Same.trans s6 s7
      have s07 := Same.trans sm s67
      have hv7 := s67 _ _ hv
      have hSv7 := SqL.of (K := K) hv7
      have eq12 : PyData.eqv (.tuple ([v1.1, v1.2.1].map PyData.int)) (.tuple ([v2.1, v2.2.1].map PyData.int)) = decide ([v1.1, v1.2.1] = [v2.1, v2.2.1]) := eqvT _ _
      have wp : [v1.1, v1.2.1] = [v2.1, v2.2.1] ↔ wPt v1 = wPt v2 := by
        constructor
        · intro z
          injection z with z1 z2
          injection z2 with z2
          exact Prod.ext z1 z2
        · intro z
          rw [show v1.1 = v2.1 from congrArg (fun p : Pt => p.1) z, show v1.2.1 = v2.2.1 from congrArg (fun p : Pt => p.2) z]
      walk_at "st"
      refine ite2 (fun c => ?_) (fun c => ?_)
      · have c : wPt v1 = wPt v2 := wp.mp (of_decide_eq_true (eq12 ▸ c))
        have pe : papOf1 L as most k = [(.round, F, k)] := by
          unfold papOf1
          rw [← eF, pl1, pl2, if_pos (congrArg some c)]
        walk_at "st"
        intro pp npp
        have s8 : Same H7 (upd H7 pp (.tup [.str "round", .int ((us.length : Int) - (k : Int) - ((asA as k : Nat) : Int)), .int (k : Int)])) := Same.new npp
        have hpp : Tp K (upd H7 pp (.tup [.str "round", .int ((us.length : Int) - (k : Int) - ((asA as k : Nat) : Int)), .int (k : Int)])) (.ref pp) (papD (.round, F, k)) := by
          have z := tp_newF (K := K) npp (.cons (.str "round") (.cons (.int ((us.length : Int) - (k : Int) - ((asA as k : Nat) : Int))) (.cons (.int (k : Int)) .nil)))
          have e : papD (.round, F, k) = .tuple [.str "round", .int ((us.length : Int) - (k : Int) - ((asA as k : Nat) : Int)), .int (k : Int)] := by
            rw [eFi]
            rfl
          rw [e]
          exact z
        generalize hH8 : upd H7 pp (.tup [.str "round", .int ((us.length : Int) - (k : Int) - ((asA as k : Nat) : Int)), .int (k : Int)]) = H8 at *
        have hv8 := s8 _ _ hv7
        have hszv : vs.length < sizeLine := Nat.lt_of_le_of_lt (show _ ≤ 3000 by omega) (by decide)
        have tl := TK.lst (o := .lst (vs ++ [V.ref pp])) hv8
        have s78 := Same.trans s67 s8
        walk_at "st"
        refine ⟨_, _, vs ++ [.ref pp], rfl, upd_same, ?_, by rw [List.length_append]; show _ + 1 ≤ _; omega, by rw [upd_ne nPA]; exact s78 _ _ hAi, by rw [upd_ne nPPP]; exact s78 _ _ hPi, Same.fresh (Same.trans sm s78) nP0⟩
        rw [tk1, papsOf_app, pe, List.map_append]
        exact TpAll.append (TpAll.mono (TK.trans (Same.tk s78) tl) _ _ htv) (.cons (Tp.mono tl _ _ hpp) .nil)
      · have c : ¬ wPt v1 = wPt v2 := fun z => c (eq12.trans (decide_eq_true (wp.mpr z)))
        walk_at "st"
        refine ite2 (fun c2 => ?_) (fun c2 => ?_)
        · have c2 := of_decide_eq_true c2
          have pe : papOf1 L as most k = [(.street, F, k)] := by
            unfold papOf1
            rw [← eF, pl1, pl2, if_neg (fun z => c (Option.some.inj z)), if_pos c2]
          walk_at "st"
          intro pp npp
          have s8 : Same H7 (upd H7 pp (.tup [.str "street", .int ((us.length : Int) - (k : Int) - ((asA as k : Nat) : Int)), .int (k : Int)])) := Same.new npp
          have hpp : Tp K (upd H7 pp (.tup [.str "street", .int ((us.length : Int) - (k : Int) - ((asA as k : Nat) : Int)), .int (k : Int)])) (.ref pp) (papD (.street, F, k)) := by
            have z := tp_newF (K := K) npp (.cons (.str "street") (.cons (.int ((us.length : Int) - (k : Int) - ((asA as k : Nat) : Int))) (.cons (.int (k : Int)) .nil)))
            have e : papD (.street, F, k) = .tuple [.str "street", .int ((us.length : Int) - (k : Int) - ((asA as k : Nat) : Int)), .int (k : Int)] := by
              rw [eFi]
              rfl
            rw [e]
            exact z
          generalize hH8 : upd H7 pp (.tup [.str "street", .int ((us.length : Int) - (k : Int) - ((asA as k : Nat) : Int)), .int (k : Int)]) = H8 at *
          have hv8 := s8 _ _ hv7
          have hszv : vs.length < sizeLine := Nat.lt_of_le_of_lt (show _ ≤ 3000 by omega) (by decide)
          have tl := TK.lst (o := .lst (vs ++ [V.ref pp])) hv8
          have s78 := Same.trans s67 s8
          walk_at "st"
          refine ⟨_, _, vs ++ [.ref pp], rfl, upd_same, ?_, by rw [List.length_append]; show _ + 1 ≤ _; omega, by rw [upd_ne nPA]; exact s78 _ _ hAi, by rw [upd_ne nPPP]; exact s78 _ _ hPi, Same.fresh (Same.trans sm s78) nP0⟩
          rw [tk1, papsOf_app, pe, List.map_append]
          exact TpAll.append (TpAll.mono (TK.trans (Same.tk s78) tl) _ _ htv) (.cons (Tp.mono tl _ _ hpp) .nil)
        · have c2 : ¬ (k : Int) ≤ most := fun z => c2 (decide_eq_true z)
          have pe : papOf1 L as most k = [] := by
            unfold papOf1
            rw [← eF, pl1, pl2, if_neg (fun z => c (Option.some.inj z)), if_neg c2]
          walk_at "st"
          refine ⟨_, _, vs, rfl, s67 _ _ hv, ?_, by omega, s67 _ _ hAi, s67 _ _ hPi, s07⟩
          rw [tk1, papsOf_app, pe, List.append_nil]
          exact TpAll.mono (Same.tk s67) _ _ htv
    · rintro σ H' ⟨y4, y5, vs, rfl, hv, htv, lv, hAi, hPi, sm⟩
      have hl : (nIV (likely as (as.length - 1))).length = (likely as (as.length - 1)).length := List.length_map _
      rw [hl, List.take_length] at htv
      walk_at "st"
      exact q P0 vs H' as nP0 hv htv zs sm
end

/-! ### found_paper -/
/-- the first of a list for which it holds -/
def FirstOf (h : Pap → Prop) (l : List Pap) (o : Option Pap) : Prop := (o = none ∧ ∀ p ∈ l, ¬ h p) ∨ ∃ l1 p l2, l = l1 ++ p :: l2 ∧ o = some p ∧ h p ∧ ∀ q ∈ l1, ¬ h q
def FoundAt (T : List (List Ent)) (z0 : WSt) (steps : Nat) (most : Int) (o : Option Pap) : Prop := ∃ i z, Ends T z0 steps i z ∧ ((stepW T z = none ∧ o = some (.stops, i, 0)) ∨
  (stepW T z ≠ none ∧ ∃ as, ZsOk (told3 T z0 i) as ∧ FirstOf (HoldsAt T z0) (papsOf (told3 T z0 i) as most (likely as (as.length - 1))) o))
def optD (o : Option Pap) : PyData := (o.map papD).getD .none
def spFound (K : PySem.W.Frag) : Sp := fun vs H Q _ => ∃ (tv fv wv : V) (steps : Nat) (most : Int) (cc n : Nat) (B : Int) (T : List (List Ent)) (F : List Sq) (w : Wk), vs = [tv, fv, wv, .int (steps : Int), .int most] ∧ Tp K H tv (tabD T) ∧ Tp K H fv (floorD F) ∧ Tp K H wv (wkD w) ∧ StandOk cc n B T F w ∧ B ≤ 1000000000 ∧ F.length ≤ 1000 ∧ 1 ≤ steps ∧ F.length + steps ≤ 2900 ∧ 1 ≤ most ∧ most ≤ 2000 ∧
  ∀ (v : V) (H' : Hp) (o : Option Pap), FoundAt T (colF F, w) steps most o → Tp K H' v (optD o) → Same H H' → Q v H'
section
variable {P : Program} {w : World} {K : PySem.W.Frag} {mg : Str → Option Value} {base : Heap}
local macro_rules | `(tactic| walk_at "cl") => `(tactic| first | (refine le_only ?_; omega) | (refine lt_only ?_; omega) | assumption)
theorem ok_found_paper (T : Txt K mg) {C CC : Addr} (S : ClsS K mg C) (SC : ClsC K mg CC) (mkS : PySem.W.makesIn K C = true) (kpS : PySem.W.keepIn K (.ref C) = true) (mkC : PySem.W.makesIn K CC = true) (kpC : PySem.W.keepIn K (.ref CC) = true) (MI : MCalD P w K mg base C "__init__" 2 ["self", "table", "floor", "walker", "ground"] (spInit3 K C)) (MG : MCal P w K mg base C "go" 3 ["self", "many"] (spGo2 K C)) (MH : MCal P w K mg base C "has_stopped" 3 ["self"] (spStopped K C)) (MC : MCal P w K mg base CC "__init__" 4 ["self", "stroll", "paper"] (spCrs K CC C)) (MHo : MCal P w K mg base CC "holds" 4 ["self"] (spHolds K CC C))
    (D : DefAt K mg "found_paper" s_found_paper ["table", "floor", "walker", "steps", "most"]) (C_check_number : Cal P w K mg base CX0 "check_number" 2 ["value", "least", "greatest"] spNumberOk) (C_likely_papers : Cal P w K mg base CX0 "_likely_papers" 2 ["told", "most"] (spPapers K)) : Cal P w K mg base CX0 "found_paper" 6 ["table", "floor", "walker", "steps", "most"] (spFound K) := by
  refine D.cal sc_found_paper (fun vs H Q E h => ?_) (fun f cdv A outer s H vs Q E hr h => ?_)
  · obtain ⟨tv, fv, wv, steps, most, cc, n, B, T, F, w, rfl, _⟩ := h
    rfl
  · obtain ⟨tv, fv, wv, steps, most, cc, n, B, Tb, Fl, wk, rfl, ht, hf, hw, hs, lB, hl, h1, h2, m1, m2, q⟩ := h
    refine ⟨_, (pss_cons (ps_expr (pe_own C_check_number hr (by first | decide | omega) (pa_cons (pv 3) (pa_cons pe_int (pa_cons (pe_gint (by rfl) T.most_walked) pa_nil)))))
      (pss_cons (ps_expr (pe_own C_check_number hr (by first | decide | omega) (pa_cons (pv 4) (pa_cons pe_int (pa_cons (pe_gint (by rfl) T.longest_period) pa_nil)))))
      (pss_cons (ps_set (i := 5) sc_found_paper.nd rfl (Or.inl rfl) (pe_ownMkD MI mkS kpS hr (by decide) S.mgC (pa_cons (pv 0) (pa_cons (pv 1) (pa_cons (pv 2) pa_nil)))))
      (pss_cons (ps_set (i := 6) sc_found_paper.nd rfl (Or.inl rfl) (pe_ownM MG S.cl hr (by decide) (pv 5) (pa_cons (pv 3) pa_nil)))
      (pss_cons (ps_if (pt_val (pe_ownM0 MH S.cl hr (by decide) (pv 5))) (pss_one (ps_ret (pe_tup (pa_cons pe_str (pa_cons (pe_callB (k_len_l (K := K)) (by rfl) T.m_len (by decide +kernel) (pa_cons (pv 6) pa_nil)) pa_nil))))) pss_nil)
      (pss_cons (ps_for PassesOwn.never rfl (k_pi_list (K := K) (pe_own C_likely_papers hr (by first | decide | omega) (pa_cons (pv 6) (pa_cons (pv 4) pa_nil)))) (pg_name (i := 7) sc_found_paper.nd rfl (Or.inl rfl))
      (pss_one (ps_if (pt_val (pe_ownM0 MHo SC.cl hr (by decide) (pe_ownMk MC mkC kpC hr (by decide) SC.mgC (pa_cons (pe_ownMkD MI mkS kpS hr (by decide) S.mgC (pa_cons (pv 0) (pa_cons (pv 1) (pa_cons (pv 2) pa_nil)))) (pa_cons (pv 7) pa_nil))))) (pss_one (ps_ret (pv 7))) pss_nil)))
      (pss_one (ps_ret pe_non)))))))), ?_⟩
    have cl := S.cl
    have clC := SC.cl
    have nP := S.nP
    have nW := S.nW
    have hfr := hs.fit
    have tab := hs.tab
    have asc := hs.fl.asc
    have nz : ∀ s ∈ Fl, s.2.2 ≠ 0 := fun s h => by
      have := (hs.fl.sq s h).2
      omega
    have lc : (cellsOf Fl).length = Fl.length := List.length_map _
    walk_at "st"
    intro x dx nx ndx nex
    have s1 : Same H (upd (upd H dx (.own x)) x (.ins C dx [])) := fun b o e => by
      rw [upd_ne (ne_of_none e nx), upd_ne (ne_of_none e ndx)]
      exact e
    have hx : (upd (upd H dx (.own x)) x (.ins C dx [])) x = some (.ins C dx []) := upd_same
    generalize hH1 : upd (upd H dx (.own x)) x (.ins C dx []) = H1 at s1 hx
    refine ⟨x, dx, tv, fv, wv, Tb, Fl, wk, rfl, hx, Tp.mono (Same.tk s1) _ _ ht, Tp.mono (Same.tk s1) _ _ hf, Tp.mono (Same.tk s1) _ _ hw, asc, nz, hl, fun D H2 nD hS k2 => ⟨rfl, ?_⟩⟩
    have s2 : Same H H2 := (KeepE.trans (Same.keepE s1) k2).same fun b hb => by
      rw [List.mem_singleton.mp hb]
      exact nx
    have nD0 : H D = none := Same.back s1 nD
    obtain ⟨dx3, tv3, gv3, wv3, hx3, _⟩ := id hS.ob
    have noM : (strF tv3 gv3 D wv3).lookup ("go" : Str) = none := lkNo _ _ _ _ (by decide +kernel)
    have gm : (((cellsOf Fl).length : Nat) : Int) + (steps : Int) ≤ 3000 := by omega
    walk_at "st"
    intro L vs' i m' w' H4 nL he hS4 hml hL hvl k4 htl
    have s4 : Same H H4 := fun b o e => by
      have e3 := s2 _ _ e
      refine k4 _ _ (fun z => ?_) e3
      rcases List.mem_cons.mp z with z | z
      · rw [z, nx] at e
        cases e
      · rw [List.mem_singleton.mp z, nD0] at e
        cases e
    have he : Ends Tb (colF Fl, wk) steps i (col m', w') := he
    obtain ⟨dx4, tv4, gv4, wv4, hx4, _⟩ := id hS4.ob
    have noS : (strF tv4 gv4 D wv4).lookup ("has_stopped" : Str) = none := lkNo _ _ _ _ (by decide +kernel)
    have fit4 := hfr.run tab he.run
    walk_at "st"
    intro b H5 hb s5
    have s05 := Same.trans s4 s5
    have hL5 := s5 _ _ hL
    have hSL5 := SqL.of (K := K) hL5
    have ile := he.le
    walk_at "st"
    refine ite2 (fun c => ?_) (fun c => ?_)
    · walk_at "st"
      intro pp npp
      have hpp : Tp K (upd H5 pp (.tup [.str "stops", .int (vs'.length : Int)])) (.ref pp) (optD (some (.stops, i, 0))) := by
        rw [hvl]
        exact tp_newF (K := K) npp (.cons (.str "stops") (.cons (.int (i : Int)) .nil))
      exact q _ _ (some (.stops, i, 0)) ⟨i, _, he, .inl ⟨hb.mp c, rfl⟩⟩ hpp (Same.trans s05 (Same.new npp))
    · have ns : stepW Tb (col m', w') ≠ none := fun z => c (hb.mpr z)
      have lt3 : (told3 Tb (colF Fl, wk) i).length ≤ 3000 := Nat.le_trans (told3_len i) (by omega)
      have lt4 := told3_len (T := Tb) (z := (colF Fl, wk)) i
      have htl5 : TpAll K H5 vs' ((told3 Tb (colF Fl, wk) i).map tl3D) := by
        rw [told3_map]
        exact TpAll.mono (Same.tk s5) _ _ htl
      walk_at "st"
      intro PP ws H6 as nPP hPP hws zs s6
      have s06 := Same.trans s05 s6
      have hSPP := SqL.of (K := K) hPP
      have lws : ws.length = (papsOf (told3 Tb (colF Fl, wk) i) as most (likely as (as.length - 1))).length := by rw [TpAll.length hws, List.length_map]
      have fdo : ∀ o, FirstOf (HoldsAt Tb (colF Fl, wk)) (papsOf (told3 Tb (colF Fl, wk) i) as most (likely as (as.length - 1))) o → FoundAt Tb (colF Fl, wk) steps most o := fun o ho => ⟨i, _, he, .inr ⟨ns, as, zs, ho⟩⟩
      have pok := fun p => paps_ok (p := p) (most := most) zs lt3 (n := as.length - 1) (by have := zs.len; omega) (ps := likely as (as.length - 1)) (fun k hk => hk)
      generalize papsOf (told3 Tb (colF Fl, wk) i) as most (likely as (as.length - 1)) = ps at *
      walk_at "st"
      refine for_list (K := K) (a := PP) (xs := ws) (fun k σ H' => Ok (∃ y7 : Option V, σ = [some tv, some fv, some wv, some (.int (steps : Int)), some (.int most), some (.ref x), some (.ref L), y7] ∧ Same H6 H' ∧ ∀ p ∈ ps.take k, ¬ HoldsAt Tb (colF Fl, wk) p)) ⟨_, rfl, Same.refl _, fun p hp => absurd hp List.not_mem_nil⟩ (fun k σ H' _ ⟨_, _, sm, _⟩ => SqL.of (sm _ _ hPP)) ?_ ?_
      · rintro k pv σ H' hpv ⟨y7, rfl, sm, noH⟩
        have kl : k < ps.length := by
          have := (List.getElem?_eq_some_iff.mp hpv).1
          omega
        have ek : ps[k]? = some ps[k] := List.getElem?_eq_getElem kl
        have tk1 := take_more ek
        have hmem := List.getElem_mem kl
        have spl : ps = ps.take k ++ ps[k] :: ps.drop (k + 1) := by rw [← List.drop_eq_getElem_cons kl, List.take_append_drop]
        obtain ⟨u, eu, hu⟩ := hws.get (i := k) (d := papD ps[k]) (by rw [List.getElem?_map, ek]; rfl)
        rw [hpv] at eu
        cases eu
        generalize ps[k] = p at *
        obtain ⟨po, pns, pst, plt⟩ := pok p hmem
        have s0' := Same.trans s06 sm
        have hpI := Tp.mono (Same.tk sm) _ _ hu
        walk_at "st"
        intro x2 dx2 nx2 ndx2 nex2
        have s7 : Same H' (upd (upd H' dx2 (.own x2)) x2 (.ins C dx2 [])) := fun b o e => by
          rw [upd_ne (ne_of_none e nx2), upd_ne (ne_of_none e ndx2)]
          exact e
        have hx2 : (upd (upd H' dx2 (.own x2)) x2 (.ins C dx2 [])) x2 = some (.ins C dx2 []) := upd_same
        generalize hH7 : upd (upd H' dx2 (.own x2)) x2 (.ins C dx2 []) = H7 at s7 hx2
        have s07 := Same.trans s0' s7
        refine ⟨x2, dx2, tv, fv, wv, Tb, Fl, wk, rfl, hx2, Tp.mono (Same.tk s07) _ _ ht, Tp.mono (Same.tk s07) _ _ hf, Tp.mono (Same.tk s07) _ _ hw, asc, nz, hl, fun D2 H8 nD2 hS2 k8 => ⟨rfl, ?_⟩⟩
        have s8 : Same H' H8 := (KeepE.trans (Same.keepE s7) k8).same fun b hb => by
          rw [List.mem_singleton.mp hb]
          exact nx2
        have nD20 : H' D2 = none := Same.back s7 nD2
        have hp8 := Tp.mono (Same.tk s8) _ _ hpI
        walk_at "st"
        intro c3 dc3 nc3 ndc3 nec3
        have s9 : Same H8 (upd (upd H8 dc3 (.own c3)) c3 (.ins CC dc3 [])) := fun b o e => by
          rw [upd_ne (ne_of_none e nc3), upd_ne (ne_of_none e ndc3)]
          exact e
        have hc3 : (upd (upd H8 dc3 (.own c3)) c3 (.ins CC dc3 [])) c3 = some (.ins CC dc3 []) := upd_same
        generalize hH9 : upd (upd H8 dc3 (.own c3)) c3 (.ins CC dc3 []) = H9 at s9 hc3
        have nc0 : H' c3 = none := Same.back s8 nc3
        refine ⟨c3, dc3, x2, D2, pv, Tb, p, cellsOf Fl, wk, cc, n, B, rfl, hc3, Tp.mono (Same.tk s9) _ _ hp8, po, hS2.same s9, tab, hfr, by omega, fun m1' m2' w1' w2' i' j' H10 hC hm1 k10 => ⟨rfl, ?_⟩⟩
        have s10 : Same H' H10 := fun b o e => by
          have e5 := s9 _ _ (s8 _ _ e)
          refine k10 _ _ (fun z => ?_) e5
          rcases List.mem_cons.mp z with z | z
          · rw [z, nc0] at e
            cases e
          · rcases List.mem_cons.mp z with z | z
            · rw [z, nx2] at e
              cases e
            · rw [List.mem_singleton.mp z, nD20] at e
              cases e
        obtain ⟨dx6, D0, D1', L2', L3', sv, ev, mv, us2, us3, hc6, _⟩ := id hC.ob
        have noH2 : (crsF (.str p.1.nm) p.2.1 p.2.2 x2 D0 sv D1' L2' ev L3' mv).lookup ("holds" : Str) = none := clk_no (by decide +kernel)
        have e1 : Ends Tb (colF Fl, wk) p.2.1 i' (col m1', w1') := hC.e1
        have fit1 := hfr.run tab e1.run
        have il2 := e1.le
        have lm1 : m1'.length ≤ 3000 := by omega
        have bB : B + (i' : Int) ≤ 10000000000 := by omega
        walk_at "st"
        intro b2 H11 hb2 s11
        have hat := HoldsAt.of e1 hC.e2
        have s0B := Same.trans s0' (Same.trans s10 s11)
        walk_at "st"
        refine ite2 (fun g => ?_) (fun g => ?_)
        · have hh := hat.mp (hb2.mp g)
          have hpB := Tp.mono (Same.tk (Same.trans s10 s11)) _ _ hpI
          walk_at "st"
          exact q _ _ (some p) (fdo _ (.inr ⟨_, p, _, spl, rfl, hh, noH⟩)) hpB s0B
        · have hh : ¬ HoldsAt Tb (colF Fl, wk) p := fun z => g (hb2.mpr (hat.mpr z))
          walk_at "st"
          refine ⟨_, rfl, Same.trans sm (Same.trans s10 s11), fun p' hp' => ?_⟩
          rw [tk1] at hp'
          rcases List.mem_append.mp hp' with z | z
          · exact noH p' z
          · rw [List.mem_singleton.mp z]
            exact hh
      · rintro σ H' ⟨y7, rfl, sm, noH⟩
        rw [lws, List.take_length] at noH
        exact q _ _ none (fdo _ (.inl ⟨rfl, noH⟩)) .non (Same.trans s06 sm)
end

/-! ### what is found is told exactly -/
theorem ZOk.uniq {ls : List (List Int)} {k a b : Nat} (ha : ZOk ls k a) (hb : ZOk ls k b) : a = b := by
  have key : ∀ {a b : Nat}, ZOk ls k a → ZOk ls k b → ¬ a < b := fun {a b} ha hb l =>
    ha.2.2 (by have := hb.1; omega) (hb.2.1 a l)
  rcases Nat.lt_trichotomy a b with l | l | l
  · exact absurd l (key ha hb)
  · exact l
  · exact absurd l (key hb ha)
theorem ZsOk.uniq {L : List (Wk × Int × Int)} {as bs : List Nat} (ha : ZsOk L as) (hb : ZsOk L bs) : as = bs := by
  refine List.ext_getElem? fun k => ?_
  rcases Nat.lt_or_ge k as.length with l | l
  · have l2 : k < bs.length := by rw [hb.len, ← ha.len]; exact l
    rcases Nat.eq_zero_or_pos k with z | z
    · subst z
      rw [ha.z0, hb.z0]
    · have e1 := List.getElem?_eq_getElem l
      have e2 := List.getElem?_eq_getElem l2
      rw [e1, e2, (ha.z k _ z e1).uniq (hb.z k _ z e2)]
  · rw [List.getElem?_eq_none l, List.getElem?_eq_none (by rw [hb.len, ← ha.len]; exact l)]
theorem FirstOf.uniq {h : Pap → Prop} : ∀ {l : List Pap} {o o' : Option Pap}, FirstOf h l o → FirstOf h l o' → o = o' := by
  intro l o o' a b
  rcases a with ⟨rfl, na⟩ | ⟨l1, p, l2, e1, rfl, hp, n1⟩
  · rcases b with ⟨rfl, _⟩ | ⟨l1, p, l2, e1, rfl, hp, n1⟩
    · rfl
    · exact absurd hp (na p (by rw [e1]; exact List.mem_append_right _ List.mem_cons_self))
  · rcases b with ⟨rfl, nb⟩ | ⟨k1, q, k2, e2, rfl, hq, n2⟩
    · exact absurd hp (nb p (by rw [e1]; exact List.mem_append_right _ List.mem_cons_self))
    · rw [e1] at e2
      rcases List.append_eq_append_iff.mp e2 with ⟨as, h1, h2⟩ | ⟨bs, h1, h2⟩
      · cases as with
        | nil =>
          rw [List.nil_append] at h2
          rw [(List.cons.inj h2).1]
        | cons x as =>
          obtain ⟨rfl, _⟩ := List.cons.inj h2
          exact absurd hp (n2 p (by rw [h1]; exact List.mem_append_right _ List.mem_cons_self))
      · cases bs with
        | nil =>
          rw [List.nil_append] at h2
          rw [(List.cons.inj h2).1]
        | cons x bs =>
          obtain ⟨rfl, _⟩ := List.cons.inj h2
          exact absurd hq (n1 q (by rw [h1]; exact List.mem_append_right _ List.mem_cons_self))
theorem FoundAt.uniq {T : List (List Ent)} {z0 : WSt} {steps : Nat} {most : Int} {o o' : Option Pap} (a : FoundAt T z0 steps most o) (b : FoundAt T z0 steps most o') : o = o' := by
  obtain ⟨i, z, e1, a⟩ := a
  obtain ⟨j, y, e2, b⟩ := b
  obtain ⟨rfl, rfl⟩ := e1.uniq e2
  rcases a with ⟨s1, rfl⟩ | ⟨n1, as, za, fa⟩
  · rcases b with ⟨_, rfl⟩ | ⟨n2, _⟩
    · rfl
    · exact absurd s1 n2
  · rcases b with ⟨s2, _⟩ | ⟨_, bs, zb, fb⟩
    · exact absurd s2 n1
    · obtain rfl := za.uniq zb
      exact fa.uniq fb
theorem FoundAt.ok {T : List (List Ent)} {z0 : WSt} {steps : Nat} {most : Int} {p : Pap} (h : FoundAt T z0 steps most (some p)) (ls : steps ≤ 3000) : PapOk p ∧ HoldsAt T z0 p ∧ p.2.1 + p.2.2 ≤ steps := by
  obtain ⟨i, z, he, h⟩ := h
  have il := he.le
  rcases h with ⟨st, ep⟩ | ⟨_, as, zs, fo⟩
  · obtain rfl := Option.some.inj ep
    refine ⟨⟨by show i ≤ 100000; omega, fun _ => rfl, fun z => absurd rfl z, by show 0 ≤ 2000; omega⟩, ⟨z, z, ⟨he.run, Nat.le_refl _, .inl rfl⟩, ⟨rfl, Nat.le_refl _, .inl rfl⟩, rfl, rfl, st⟩, by show i + 0 ≤ steps; omega⟩
  · rcases fo with ⟨e, _⟩ | ⟨l1, q, l2, el, eq, hq, _⟩
    · cases e
    · obtain rfl := Option.some.inj eq
      have lt4 := told3_len (T := T) (z := z0) i
      have m : p ∈ papsOf (told3 T z0 i) as most (likely as (as.length - 1)) := by
        rw [el]
        exact List.mem_append_right _ List.mem_cons_self
      obtain ⟨po, _, _, lt⟩ := paps_ok (p := p) (most := most) zs (by omega) (n := as.length - 1) (by have := zs.len; omega) (ps := likely as (as.length - 1)) (fun k hk => hk) m
      exact ⟨po, hq, by omega⟩

/-! ### find_paper -/
section
variable {P : Program} {w : World} {K : PySem.W.Frag} {mg : Str → Option Value} {base : Heap}
local macro_rules | `(tactic| walk_at "cl") => `(tactic| first | (refine le_only ?_; omega) | (refine lt_only ?_; omega) | assumption)
theorem ok_find_paper (T : Txt K mg) (D : DefAt K mg "find_paper" s_find_paper ["table", "floor", "walker", "steps", "most"]) (C_check_stand : Cal P w K mg base CX0 "check_stand" 5 ["table", "floor", "walker"] (spStand K)) (C_found_paper : Cal P w K mg base CX0 "found_paper" 6 ["table", "floor", "walker", "steps", "most"] (spFound K)) : Cal P w K mg base CX0 "find_paper" 7 ["table", "floor", "walker", "steps", "most"] (spFound K) := by
  refine D.cal sc_find_paper (fun vs H Q E h => ?_) (fun f cdv A outer s H vs Q E hr h => ?_)
  · obtain ⟨tv, fv, wv, steps, most, cc, n, B, T, F, w, rfl, _⟩ := h
    rfl
  · obtain ⟨tv, fv, wv, steps, most, cc, n, B, Tb, Fl, wk, rfl, ht, hf, hw, hs, lB, hl, h1, h2, m1, m2, q⟩ := h
    refine ⟨_, (pss_cons (ps_expr (pe_own C_check_stand hr (by first | decide | omega) (pa_cons (pv 0) (pa_cons (pv 1) (pa_cons (pv 2) pa_nil)))))
      (pss_one (ps_ret (pe_own C_found_paper hr (by first | decide | omega) (pa_cons (pv 0) (pa_cons (pv 1) (pa_cons (pv 2) (pa_cons (pv 3) (pa_cons (pv 4) pa_nil))))))))), ?_⟩
    have lF : B ≤ FarI := Int.le_trans lB (by unfold FarI; decide)
    have hs2 := hs.mono lF
    walk_at "st"
    intro H1 s1
    clear hs2
    have ht1 := Tp.mono (Same.tk s1) _ _ ht
    have hf1 := Tp.mono (Same.tk s1) _ _ hf
    have hw1 := Tp.mono (Same.tk s1) _ _ hw
    walk_at "st"
    intro v H2 o ho hv s2
    exact q v H2 o ho hv (Same.trans s1 s2)
end

/-! ### is_paper, shows_paper -/
def spIsPap (K : PySem.W.Frag) : Sp := fun vs H Q _ => ∃ (v : V) (p : Pap), vs = [v] ∧ Tp K H v (papD p) ∧ PapOk p ∧ ∀ H', Same H H' → Q (.bl true) H'
def spShowsNS (K : PySem.W.Frag) : Sp := fun vs H Q _ => ∃ (tv fv wv pv : V) (c n : Nat) (T : List (List Ent)) (F : List Sq) (w : Wk) (p : Pap), vs = [tv, fv, wv, pv] ∧ Tp K H tv (tabD T) ∧ Tp K H fv (floorD F) ∧ Tp K H wv (wkD w) ∧ StandOk c n FarI T F w ∧ F.length ≤ 1000 ∧ Tp K H pv (papD p) ∧ PapOk p ∧ p.1 ≠ .street ∧ F.length + p.2.1 + p.2.2 ≤ 3000 ∧
  ∀ (b : Bool) (z1 z2 : WSt) (i j : Nat) H', Ends T (colF F, w) p.2.1 i z1 → Ends T z1 p.2.2 j z2 → (b = true ↔ HoldsNS T p z1 z2 i j) → Same H H' → Q (.bl b) H'
section
variable {P : Program} {w : World} {K : PySem.W.Frag} {mg : Str → Option Value} {base : Heap}
local macro_rules | `(tactic| walk_at "cl") => `(tactic| first | (refine le_only ?_; omega) | (refine lt_only ?_; omega) | assumption | exact .inr (SqT.of upd_same))
theorem ok_is_paper (T : Txt K mg) (D : DefAt K mg "is_paper" s_is_paper ["value"]) (C_is_whole : Cal P w K mg base CX0 "is_whole" 1 ["value", "least", "greatest"] spWhole) : Cal P w K mg base CX0 "is_paper" 2 ["value"] (spIsPap K) := by
  refine D.cal sc_is_paper (fun vs H Q E h => ?_) (fun f cdv A outer s H vs Q E hr h => ?_)
  · obtain ⟨v, p, rfl, _⟩ := h
    rfl
  · obtain ⟨vv, p, rfl, hv, pok, q⟩ := h
    refine ⟨_, (pss_cons (ps_if (PW.pt (pw_or (pt_not (pt_val (pe_callB (k_isN (K := K)) (by rfl) T.m_isinstance (by decide +kernel) (pa_cons (pv 0) (pa_cons (pe_ty "tuple" (by rfl) T.m_tuple (by decide +kernel)) pa_nil))))) (pw_or (pt_cmpR op_notIn_seq (pe_callB (k_len_t (K := K)) (by rfl) T.m_len (by decide +kernel) (pa_cons (pv 0) pa_nil)) (pe_tup (pa_cons pe_int (pa_cons pe_int pa_nil))) (by rfl)) (pw_or1 (pt_not (pt_val (pe_own C_is_whole hr (by first | decide | omega) (pa_cons (pe_ix (k_ix_tup (K := K)) (pv 0) pe_int (fun _ _ => rfl)) (pa_cons pe_int (pa_cons (pe_gint (by rfl) T.most_steps) pa_nil)))))))))) (pss_one (ps_ret pe_bl)) pss_nil)
      (pss_cons (ps_if (pt_cmpR op_eq (pe_callB (k_len_t (K := K)) (by rfl) T.m_len (by decide +kernel) (pa_cons (pv 0) pa_nil)) pe_int (nomark _)) (pss_one (ps_ret (pe_cmpR op_eq (pe_ix (k_ix_tup (K := K)) (pv 0) pe_int (fun _ _ => rfl)) pe_str (nomark _)))) pss_nil)
      (pss_one (ps_ret (pe_and (pe_cmpR op_in_seq (pe_ix (k_ix_tup (K := K)) (pv 0) pe_int (fun _ _ => rfl)) (pe_tup (pa_cons pe_str (pa_cons pe_str pa_nil))) (by rfl)) (pe_one (pe_own C_is_whole hr (by first | decide | omega) (pa_cons (pe_ix (k_ix_tup (K := K)) (pv 0) pe_int (fun _ _ => rfl)) (pa_cons pe_int (pa_cons (pe_gint (by rfl) T.longest_period) pa_nil)))))))))), ?_⟩
    have hf := pok.f
    have hp2 := pok.p2
    have hp1 := pok.p1
    obtain ⟨pa, rfl, hpc⟩ := papI hv pok
    obtain ⟨kd, fp, pp⟩ := p
    cases kd with
    | stops =>
      rcases hpc with ⟨_, h0, hpa⟩ | ⟨hk, _⟩
      · have hf : (fp : Int) ≤ 100000 := by
          have : fp ≤ 100000 := hf
          omega
        walk_at "st"
        intro t nt
        have hpa1 := TK.seqT (TK.new (o := .tup [.int 2, .int 3]) nt) hpa
        walk_at "st"
        refine ite2 (fun z => absurd z (by rw [Bool.not_eq_true]; simp <;> omega)) (fun _ => ?_)
        walk_at "st"
        exact q _ (Same.new nt)
      · exact absurd rfl hk
    | round =>
      rcases hpc with ⟨hk, _⟩ | ⟨_, hpa⟩
      · cases hk
      · have hf : (fp : Int) ≤ 100000 := by
          have : fp ≤ 100000 := hf
          omega
        have h1 : 1 ≤ (pp : Int) := by
          have : 1 ≤ pp := hp1 (by intro z; cases z)
          omega
        have h2 : (pp : Int) ≤ 2000 := by
          have : pp ≤ 2000 := hp2
          omega
        walk_at "st"
        intro t nt
        have hpa1 := TK.seqT (TK.new (o := .tup [.int 2, .int 3]) nt) hpa
        walk_at "st"
        refine ite2 (fun z => absurd z (by rw [Bool.not_eq_true]; simp <;> omega)) (fun _ => ?_)
        walk_at "st"
        intro t2 nt2
        have hpa2 := TK.seqT (TK.new (o := .tup [.str "round", .str "street"]) nt2) hpa1
        walk_at "st"
        rw [in_dec h1 h2]
        exact q _ (Same.trans (Same.new nt) (Same.new nt2))
    | street =>
      rcases hpc with ⟨hk, _⟩ | ⟨_, hpa⟩
      · cases hk
      · have hf : (fp : Int) ≤ 100000 := by
          have : fp ≤ 100000 := hf
          omega
        have h1 : 1 ≤ (pp : Int) := by
          have : 1 ≤ pp := hp1 (by intro z; cases z)
          omega
        have h2 : (pp : Int) ≤ 2000 := by
          have : pp ≤ 2000 := hp2
          omega
        walk_at "st"
        intro t nt
        have hpa1 := TK.seqT (TK.new (o := .tup [.int 2, .int 3]) nt) hpa
        walk_at "st"
        refine ite2 (fun z => absurd z (by rw [Bool.not_eq_true]; simp <;> omega)) (fun _ => ?_)
        walk_at "st"
        intro t2 nt2
        have hpa2 := TK.seqT (TK.new (o := .tup [.str "round", .str "street"]) nt2) hpa1
        walk_at "st"
        rw [in_dec h1 h2]
        exact q _ (Same.trans (Same.new nt) (Same.new nt2))
theorem ok_shows_paperNS (T : Txt K mg) {C CC : Addr} (S : ClsS K mg C) (SC : ClsC K mg CC) (mkS : PySem.W.makesIn K C = true) (kpS : PySem.W.keepIn K (.ref C) = true) (mkC : PySem.W.makesIn K CC = true) (kpC : PySem.W.keepIn K (.ref CC) = true) (MI : MCalD P w K mg base C "__init__" 2 ["self", "table", "floor", "walker", "ground"] (spInit3 K C)) (MC : MCal P w K mg base CC "__init__" 4 ["self", "stroll", "paper"] (spCrs K CC C)) (MHo : MCal P w K mg base CC "holds" 4 ["self"] (spHoldsNS K CC C))
    (D : DefAt K mg "shows_paper" s_shows_paper ["table", "floor", "walker", "value"]) (C_check_stand : Cal P w K mg base CX0 "check_stand" 5 ["table", "floor", "walker"] (spStand K)) (C_is_paper : Cal P w K mg base CX0 "is_paper" 2 ["value"] (spIsPap K)) : Cal P w K mg base CX0 "shows_paper" 6 ["table", "floor", "walker", "value"] (spShowsNS K) := by
  refine D.cal sc_shows_paper (fun vs H Q E h => ?_) (fun f cdv A outer s H vs Q E hr h => ?_)
  · obtain ⟨tv, fv, wv, pv, c, n, T, F, wk, p, rfl, _⟩ := h
    rfl
  · obtain ⟨tv, fv, wv, ppv, cc, n, Tb, Fl, wk, p, rfl, ht, hf, hw, hs, hl, hp, pok, hns, hlen, q⟩ := h
    refine ⟨_, (pss_cons (ps_expr (pe_own C_check_stand hr (by first | decide | omega) (pa_cons (pv 0) (pa_cons (pv 1) (pa_cons (pv 2) pa_nil)))))
      (pss_one (ps_ret (pe_and (pe_own C_is_paper hr (by first | decide | omega) (pa_cons (pv 3) pa_nil)) (pe_one (pe_ownM0 MHo SC.cl hr (by decide) (pe_ownMk MC mkC kpC hr (by decide) SC.mgC (pa_cons (pe_ownMkD MI mkS kpS hr (by decide) S.mgC (pa_cons (pv 0) (pa_cons (pv 1) (pa_cons (pv 2) pa_nil)))) (pa_cons (pv 3) pa_nil))))))))), ?_⟩
    have cl := S.cl
    have clC := SC.cl
    walk_at "st"
    intro H1 s1
    have hp1 := Tp.mono (Same.tk s1) _ _ hp
    walk_at "st"
    intro H2 s2
    have s02 := Same.trans s1 s2
    walk_at "st"
    intro x dx nx ndx nex
    have s3 : Same H2 (upd (upd H2 dx (.own x)) x (.ins C dx [])) := fun b o e => by
      rw [upd_ne (ne_of_none e nx), upd_ne (ne_of_none e ndx)]
      exact e
    have hx : (upd (upd H2 dx (.own x)) x (.ins C dx [])) x = some (.ins C dx []) := upd_same
    generalize hH3 : upd (upd H2 dx (.own x)) x (.ins C dx []) = H3 at s3 hx
    have s03 := Same.trans s02 s3
    have asc := hs.fl.asc
    have nz : ∀ s ∈ Fl, s.2.2 ≠ 0 := fun s h => by
      have := (hs.fl.sq s h).2
      omega
    refine ⟨x, dx, tv, fv, wv, Tb, Fl, wk, rfl, hx, Tp.mono (Same.tk s03) _ _ ht, Tp.mono (Same.tk s03) _ _ hf, Tp.mono (Same.tk s03) _ _ hw, asc, nz, hl, fun D H4 nD hS k4 => ⟨rfl, ?_⟩⟩
    have nx0 : H x = none := Same.back s02 nx
    have s4 : Same H H4 := (KeepE.trans (Same.keepE s03) k4).same fun b hb => by
      rw [List.mem_singleton.mp hb]
      exact nx0
    have nD0 : H D = none := Same.back s03 nD
    have hp4 := Tp.mono (Same.tk s4) _ _ hp
    walk_at "st"
    intro c dc nc ndc nec
    have s5 : Same H4 (upd (upd H4 dc (.own c)) c (.ins CC dc [])) := fun b o e => by
      rw [upd_ne (ne_of_none e nc), upd_ne (ne_of_none e ndc)]
      exact e
    have hc : (upd (upd H4 dc (.own c)) c (.ins CC dc [])) c = some (.ins CC dc []) := upd_same
    generalize hH5 : upd (upd H4 dc (.own c)) c (.ins CC dc []) = H5 at s5 hc
    have nc0 : H c = none := Same.back s4 nc
    have lc : (cellsOf Fl).length = Fl.length := List.length_map _
    refine ⟨c, dc, x, D, ppv, Tb, p, cellsOf Fl, wk, cc, n, FarI, rfl, hc, Tp.mono (Same.tk s5) _ _ hp4, pok, hS.same s5, hs.tab, hs.fit, by omega, fun m1 m2 w1 w2 i j H6 hC _ k6 => ⟨rfl, ?_⟩⟩
    have s6 : Same H H6 := fun b o e => by
      have e5 := s5 _ _ (s4 _ _ e)
      refine k6 _ _ (fun z => ?_) e5
      rcases List.mem_cons.mp z with z | z
      · rw [z, nc0] at e
        cases e
      · rcases List.mem_cons.mp z with z | z
        · rw [z, nx0] at e
          cases e
        · rw [List.mem_singleton.mp z, nD0] at e
          cases e
    obtain ⟨dx6, D0, D1, L2, L3, sv, ev, mv, us2, us3, hc6, _⟩ := id hC.ob
    have noH : (crsF (.str p.1.nm) p.2.1 p.2.2 x D0 sv D1 L2 ev L3 mv).lookup ("holds" : Str) = none := clk_no (by decide +kernel)
    have fit2 := (hs.fit.run hs.tab hC.e1.run).run hs.tab hC.e2.run
    have tab := hs.tab
    walk_at "st"
    intro b H7 hb s7
    exact q b _ _ i j H7 hC.e1 hC.e2 hb (Same.trans s6 s7)
end

/-! ### shows_paper, streets too -/
def spShows (K : PySem.W.Frag) : Sp := fun vs H Q _ => ∃ (tv fv wv pv : V) (c n : Nat) (B : Int) (T : List (List Ent)) (F : List Sq) (w : Wk) (p : Pap), vs = [tv, fv, wv, pv] ∧ Tp K H tv (tabD T) ∧ Tp K H fv (floorD F) ∧ Tp K H wv (wkD w) ∧ StandOk c n B T F w ∧ B ≤ 1000000000 ∧ F.length ≤ 1000 ∧ Tp K H pv (papD p) ∧ PapOk p ∧ F.length + p.2.1 + p.2.2 ≤ 3000 ∧
  ∀ (b : Bool) H', (b = true ↔ HoldsAt T (colF F, w) p) → Same H H' → Q (.bl b) H'
section
variable {P : Program} {w : World} {K : PySem.W.Frag} {mg : Str → Option Value} {base : Heap}
local macro_rules | `(tactic| walk_at "cl") => `(tactic| first | (refine le_only ?_; omega) | (refine lt_only ?_; omega) | assumption | exact .inr (SqT.of upd_same))
theorem ok_shows_paper (T : Txt K mg) {C CC : Addr} (S : ClsS K mg C) (SC : ClsC K mg CC) (mkS : PySem.W.makesIn K C = true) (kpS : PySem.W.keepIn K (.ref C) = true) (mkC : PySem.W.makesIn K CC = true) (kpC : PySem.W.keepIn K (.ref CC) = true) (MI : MCalD P w K mg base C "__init__" 2 ["self", "table", "floor", "walker", "ground"] (spInit3 K C)) (MC : MCal P w K mg base CC "__init__" 4 ["self", "stroll", "paper"] (spCrs K CC C)) (MHo : MCal P w K mg base CC "holds" 4 ["self"] (spHolds K CC C))
    (D : DefAt K mg "shows_paper" s_shows_paper ["table", "floor", "walker", "value"]) (C_check_stand : Cal P w K mg base CX0 "check_stand" 5 ["table", "floor", "walker"] (spStand K)) (C_is_paper : Cal P w K mg base CX0 "is_paper" 2 ["value"] (spIsPap K)) : Cal P w K mg base CX0 "shows_paper" 6 ["table", "floor", "walker", "value"] (spShows K) := by
  refine D.cal sc_shows_paper (fun vs H Q E h => ?_) (fun f cdv A outer s H vs Q E hr h => ?_)
  · obtain ⟨tv, fv, wv, pv, c, n, B, T, F, wk, p, rfl, _⟩ := h
    rfl
  · obtain ⟨tv, fv, wv, ppv, cc, n, B, Tb, Fl, wk, p, rfl, ht, hf, hw, hs, lB, hl, hp, pok, hlen, q⟩ := h
    refine ⟨_, (pss_cons (ps_expr (pe_own C_check_stand hr (by first | decide | omega) (pa_cons (pv 0) (pa_cons (pv 1) (pa_cons (pv 2) pa_nil)))))
      (pss_one (ps_ret (pe_and (pe_own C_is_paper hr (by first | decide | omega) (pa_cons (pv 3) pa_nil)) (pe_one (pe_ownM0 MHo SC.cl hr (by decide) (pe_ownMk MC mkC kpC hr (by decide) SC.mgC (pa_cons (pe_ownMkD MI mkS kpS hr (by decide) S.mgC (pa_cons (pv 0) (pa_cons (pv 1) (pa_cons (pv 2) pa_nil)))) (pa_cons (pv 3) pa_nil))))))))), ?_⟩
    have cl := S.cl
    have clC := SC.cl
    have lF : B ≤ FarI := Int.le_trans lB (by unfold FarI; decide)
    have hs2 := hs.mono lF
    walk_at "st"
    intro H1 s1
    clear hs2
    have hp1 := Tp.mono (Same.tk s1) _ _ hp
    walk_at "st"
    intro H2 s2
    have s02 := Same.trans s1 s2
    walk_at "st"
    intro x dx nx ndx nex
    have s3 : Same H2 (upd (upd H2 dx (.own x)) x (.ins C dx [])) := fun b o e => by
      rw [upd_ne (ne_of_none e nx), upd_ne (ne_of_none e ndx)]
      exact e
    have hx : (upd (upd H2 dx (.own x)) x (.ins C dx [])) x = some (.ins C dx []) := upd_same
    generalize hH3 : upd (upd H2 dx (.own x)) x (.ins C dx []) = H3 at s3 hx
    have s03 := Same.trans s02 s3
    have asc := hs.fl.asc
    have nz : ∀ s ∈ Fl, s.2.2 ≠ 0 := fun s h => by
      have := (hs.fl.sq s h).2
      omega
    refine ⟨x, dx, tv, fv, wv, Tb, Fl, wk, rfl, hx, Tp.mono (Same.tk s03) _ _ ht, Tp.mono (Same.tk s03) _ _ hf, Tp.mono (Same.tk s03) _ _ hw, asc, nz, hl, fun D H4 nD hS k4 => ⟨rfl, ?_⟩⟩
    have nx0 : H x = none := Same.back s02 nx
    have s4 : Same H H4 := (KeepE.trans (Same.keepE s03) k4).same fun b hb => by
      rw [List.mem_singleton.mp hb]
      exact nx0
    have nD0 : H D = none := Same.back s03 nD
    have hp4 := Tp.mono (Same.tk s4) _ _ hp
    walk_at "st"
    intro c dc nc ndc nec
    have s5 : Same H4 (upd (upd H4 dc (.own c)) c (.ins CC dc [])) := fun b o e => by
      rw [upd_ne (ne_of_none e nc), upd_ne (ne_of_none e ndc)]
      exact e
    have hc : (upd (upd H4 dc (.own c)) c (.ins CC dc [])) c = some (.ins CC dc []) := upd_same
    generalize hH5 : upd (upd H4 dc (.own c)) c (.ins CC dc []) = H5 at s5 hc
    have nc0 : H c = none := Same.back s4 nc
    have lc : (cellsOf Fl).length = Fl.length := List.length_map _
    refine ⟨c, dc, x, D, ppv, Tb, p, cellsOf Fl, wk, cc, n, B, rfl, hc, Tp.mono (Same.tk s5) _ _ hp4, pok, hS.same s5, hs.tab, hs.fit, by omega, fun m1 m2 w1 w2 i j H6 hC hm1 k6 => ⟨rfl, ?_⟩⟩
    have s6 : Same H H6 := fun b o e => by
      have e5 := s5 _ _ (s4 _ _ e)
      refine k6 _ _ (fun z => ?_) e5
      rcases List.mem_cons.mp z with z | z
      · rw [z, nc0] at e
        cases e
      · rcases List.mem_cons.mp z with z | z
        · rw [z, nx0] at e
          cases e
        · rw [List.mem_singleton.mp z, nD0] at e
          cases e
    obtain ⟨dx6, D0, D1, L2, L3, sv, ev, mv, us2, us3, hc6, _⟩ := id hC.ob
    have noH : (crsF (.str p.1.nm) p.2.1 p.2.2 x D0 sv D1 L2 ev L3 mv).lookup ("holds" : Str) = none := clk_no (by decide +kernel)
    have hfr := hs.fit
    have tab := hs.tab
    have e1 : Ends Tb (colF Fl, wk) p.2.1 i (col m1, w1) := hC.e1
    have fit1 := hfr.run tab e1.run
    have il2 := e1.le
    have pf := pok.f
    have lm1 : m1.length ≤ 3000 := by omega
    have bB : B + (i : Int) ≤ 10000000000 := by omega
    have hat := HoldsAt.of e1 hC.e2
    walk_at "st"
    intro b H7 hb s7
    exact q b H7 (hb.trans hat) (Same.trans s6 s7)
end

/-! ### judged_course, right_course -/
theorem CrsAt.same {K : PySem.W.Frag} {CC CS : Addr} {H H' : Hp} {c a D : Addr} {T : List (List Ent)} {p : Pap} {m0 m1 m2 : CM} {w0 w1 w2 : Wk} {i j : Nat} (h : CrsAt K CC CS H c a D T p m0 m1 m2 w0 w1 w2 i j) (s : Same H H') : CrsAt K CC CS H' c a D T p m0 m1 m2 w0 w1 w2 i j := by
  obtain ⟨⟨dx, D0, D1, L2, L3, sv, ev, mv, us2, us3, hc, hsv, hev, hmv, hD0, hD1, hL2, htl2, l2, hL3, htl3, l3⟩, hS, e1, e2, nd0, nd1, nz0, nz1⟩ := h
  have tk := Same.tk s
  exact ⟨⟨dx, D0, D1, L2, L3, sv, ev, mv, us2, us3, s _ _ hc, Tp.mono tk _ _ hsv, Tp.mono tk _ _ hev, Tp.mono tk _ _ hmv, s _ _ hD0, s _ _ hD1, s _ _ hL2, TpAll.mono tk _ _ htl2, l2, s _ _ hL3, TpAll.mono tk _ _ htl3, l3⟩, hS.same s, e1, e2, nd0, nd1, nz0, nz1⟩
def spJudged (K : PySem.W.Frag) (CC CS : Addr) : Sp := fun vs H Q _ => ∃ (tv fv wv pv : V) (cc n : Nat) (B : Int) (T : List (List Ent)) (F : List Sq) (w : Wk) (p : Pap), vs = [tv, fv, wv, pv] ∧ Tp K H tv (tabD T) ∧ Tp K H fv (floorD F) ∧ Tp K H wv (wkD w) ∧ StandOk cc n B T F w ∧ B ≤ 1000000000 ∧ F.length ≤ 1000 ∧ Tp K H pv (papD p) ∧ PapOk p ∧ F.length + p.2.1 + p.2.2 ≤ 3000 ∧ HoldsAt T (colF F, w) p ∧
  ∀ (c a D : Addr) (m1 m2 : CM) (w1 w2 : Wk) (H' : Hp), CrsAt K CC CS H' c a D T p (cellsOf F) m1 m2 w w1 w2 p.2.1 p.2.2 → Same H H' → Q (.ref c) H'
section
variable {P : Program} {w : World} {K : PySem.W.Frag} {mg : Str → Option Value} {base : Heap}
local macro_rules | `(tactic| walk_at "cl") => `(tactic| first | (refine le_only ?_; omega) | (refine lt_only ?_; omega) | assumption)
theorem ok_judged_course (T : Txt K mg) {C CC : Addr} (S : ClsS K mg C) (SC : ClsC K mg CC) (mkS : PySem.W.makesIn K C = true) (kpS : PySem.W.keepIn K (.ref C) = true) (mkC : PySem.W.makesIn K CC = true) (kpC : PySem.W.keepIn K (.ref CC) = true) (MI : MCalD P w K mg base C "__init__" 2 ["self", "table", "floor", "walker", "ground"] (spInit3 K C)) (MC : MCal P w K mg base CC "__init__" 4 ["self", "stroll", "paper"] (spCrs K CC C)) (MHo : MCal P w K mg base CC "holds" 4 ["self"] (spHolds K CC C))
    (D : DefAt K mg "judged_course" s_judged_course ["table", "floor", "walker", "paper"]) (C_is_paper : Cal P w K mg base CX0 "is_paper" 2 ["value"] (spIsPap K)) : Cal P w K mg base CX0 "judged_course" 6 ["table", "floor", "walker", "paper"] (spJudged K CC C) := by
  refine D.cal sc_judged_course (fun vs H Q E h => ?_) (fun f cdv A outer s H vs Q E hr h => ?_)
  · obtain ⟨tv, fv, wv, pv, cc, n, B, T, F, w, p, rfl, _⟩ := h
    rfl
  · obtain ⟨tv, fv, wv, ppv, cc, n, B, Tb, Fl, wk, p, rfl, ht, hf, hw, hs, lB, hl, hp, po, hlen, hh, q⟩ := h
    refine ⟨_, (pss_cons (ps_if (pt_not (pt_val (pe_own C_is_paper hr (by first | decide | omega) (pa_cons (pv 3) pa_nil)))) (pss_one ps_never) pss_nil)
      (pss_cons (ps_try_thru0 (pss_one (ps_set (i := 4) sc_judged_course.nd rfl (Or.inl rfl) (pe_ownMk MC mkC kpC hr (by decide) SC.mgC (pa_cons (pe_ownMkD MI mkS kpS hr (by decide) S.mgC (pa_cons (pv 0) (pa_cons (pv 1) (pa_cons (pv 2) pa_nil)))) (pa_cons (pv 3) pa_nil))))))
      (pss_cons (ps_if (pt_not (pt_val (pe_ownM0 MHo SC.cl hr (by decide) (pv 4)))) (pss_one ps_never) pss_nil)
      (pss_one (ps_ret (pv 4)))))), ?_⟩
    have cl := S.cl
    have clC := SC.cl
    have hfr := hs.fit
    have tab := hs.tab
    have asc := hs.fl.asc
    have nz : ∀ s ∈ Fl, s.2.2 ≠ 0 := fun s h => by
      have := (hs.fl.sq s h).2
      omega
    have lc : (cellsOf Fl).length = Fl.length := List.length_map _
    walk_at "st"
    intro H0 s0
    have hpI := Tp.mono (Same.tk s0) _ _ hp
    walk_at "st"
    intro x2 dx2 nx2 ndx2 nex2
    have s7 : Same H0 (upd (upd H0 dx2 (.own x2)) x2 (.ins C dx2 [])) := fun b o e => by
      rw [upd_ne (ne_of_none e nx2), upd_ne (ne_of_none e ndx2)]
      exact e
    have hx2 : (upd (upd H0 dx2 (.own x2)) x2 (.ins C dx2 [])) x2 = some (.ins C dx2 []) := upd_same
    generalize hH7 : upd (upd H0 dx2 (.own x2)) x2 (.ins C dx2 []) = H7 at s7 hx2
    have s07 := Same.trans s0 s7
    refine ⟨x2, dx2, tv, fv, wv, Tb, Fl, wk, rfl, hx2, Tp.mono (Same.tk s07) _ _ ht, Tp.mono (Same.tk s07) _ _ hf, Tp.mono (Same.tk s07) _ _ hw, asc, nz, hl, fun D2 H8 nD2 hS2 k8 => ⟨rfl, ?_⟩⟩
    have s8 : Same H0 H8 := (KeepE.trans (Same.keepE s7) k8).same fun b hb => by
      rw [List.mem_singleton.mp hb]
      exact nx2
    have nD20 : H0 D2 = none := Same.back s7 nD2
    have hp8 := Tp.mono (Same.tk s8) _ _ hpI
    walk_at "st"
    intro c3 dc3 nc3 ndc3 nec3
    have s9 : Same H8 (upd (upd H8 dc3 (.own c3)) c3 (.ins CC dc3 [])) := fun b o e => by
      rw [upd_ne (ne_of_none e nc3), upd_ne (ne_of_none e ndc3)]
      exact e
    have hc3 : (upd (upd H8 dc3 (.own c3)) c3 (.ins CC dc3 [])) c3 = some (.ins CC dc3 []) := upd_same
    generalize hH9 : upd (upd H8 dc3 (.own c3)) c3 (.ins CC dc3 []) = H9 at s9 hc3
    have nc0 : H0 c3 = none := Same.back s8 nc3
    refine ⟨c3, dc3, x2, D2, ppv, Tb, p, cellsOf Fl, wk, cc, n, B, rfl, hc3, Tp.mono (Same.tk s9) _ _ hp8, po, hS2.same s9, tab, hfr, by omega, fun m1' m2' w1' w2' i' j' H10 hC hm1 k10 => ⟨rfl, ?_⟩⟩
    have s10 : Same H0 H10 := fun b o e => by
      have e5 := s9 _ _ (s8 _ _ e)
      refine k10 _ _ (fun z => ?_) e5
      rcases List.mem_cons.mp z with z | z
      · rw [z, nc0] at e
        cases e
      · rcases List.mem_cons.mp z with z | z
        · rw [z, nx2] at e
          cases e
        · rw [List.mem_singleton.mp z, nD20] at e
          cases e
    obtain ⟨dx6, D0, D1', L2', L3', sv, ev, mv, us2, us3, hc6, _⟩ := id hC.ob
    have noH2 : (crsF (.str p.1.nm) p.2.1 p.2.2 x2 D0 sv D1' L2' ev L3' mv).lookup ("holds" : Str) = none := clk_no (by decide +kernel)
    have e1 : Ends Tb (colF Fl, wk) p.2.1 i' (col m1', w1') := hC.e1
    have fit1 := hfr.run tab e1.run
    have il2 := e1.le
    have lm1 : m1'.length ≤ 3000 := by omega
    have pf := po.f
    have bB : B + (i' : Int) ≤ 10000000000 := by omega
    have hat := HoldsAt.of e1 hC.e2
    walk_at "st"
    intro b2 H11 hb2 s11
    have bt : b2 = true := hb2.mpr (hat.mpr hh)
    have hP := hat.mpr hh
    have ei := hP.1
    have ej := hP.2.1
    subst bt
    subst ei
    subst ej
    walk_at "st"
    exact q c3 x2 D2 m1' m2' w1' w2' H11 (hC.same s11) (Same.trans s0 (Same.trans s10 s11))
end

/-! ### right_course -/
def spPlaceChk (K : PySem.W.Frag) : Sp := fun vs H Q _ => ∃ (v : V) (p : Pt), vs = [v] ∧ Tp K H v (.tuple [.int p.1, .int p.2]) ∧ InB FarI p ∧ Q .non H
def spRight (K : PySem.W.Frag) (CC CS : Addr) : Sp := fun vs H Q _ => ∃ (tv fv wv pv plv : V) (step : Int) (pl : Pt) (cc n : Nat) (B : Int) (T : List (List Ent)) (F : List Sq) (w : Wk) (p : Pap), vs = [tv, fv, wv, pv, .int step, plv] ∧ Tp K H tv (tabD T) ∧ Tp K H fv (floorD F) ∧ Tp K H wv (wkD w) ∧ StandOk cc n B T F w ∧ B ≤ 1000000000 ∧ F.length ≤ 1000 ∧ Tp K H pv (papD p) ∧ PapOk p ∧ F.length + p.2.1 + p.2.2 ≤ 3000 ∧ HoldsAt T (colF F, w) p ∧
  0 ≤ step ∧ step ≤ FarI ∧ Tp K H plv (.tuple [.int pl.1, .int pl.2]) ∧ InB FarI pl ∧
  ∀ (c a D : Addr) (m1 m2 : CM) (w1 w2 : Wk) (H' : Hp), CrsAt K CC CS H' c a D T p (cellsOf F) m1 m2 w w1 w2 p.2.1 p.2.2 → Same H H' → Q (.ref c) H'
section
variable {P : Program} {w : World} {K : PySem.W.Frag} {mg : Str → Option Value} {base : Heap}
local macro_rules | `(tactic| walk_at "cl") => `(tactic| first | (refine le_only ?_; omega) | (refine lt_only ?_; omega) | assumption)
theorem ok_check_place (T : Txt K mg) (D : DefAt K mg "check_place" s_check_place ["value"]) (C_is_place : Cal P w K mg base CX0 "is_place" 2 ["value"] (spPlaceOk K)) : Cal P w K mg base CX0 "check_place" 3 ["value"] (spPlaceChk K) := by
  refine D.cal sc_check_place (fun vs H Q E h => ?_) (fun f cdv A outer s H vs Q E hr h => ?_)
  · obtain ⟨v, p, rfl, _⟩ := h
    rfl
  · obtain ⟨v, p, rfl, hp, hb, q⟩ := h
    refine ⟨_, (pss_one (ps_if (pt_not (pt_val (pe_own C_is_place hr (by first | decide | omega) (pa_cons (pv 0) pa_nil)))) (pss_one ps_never) pss_nil)), ?_⟩
    walk_at "st"
    exact q
theorem ok_right_course (T : Txt K mg) {C CC : Addr} (D : DefAt K mg "right_course" s_right_course ["table", "floor", "walker", "paper", "step", "place"]) (C_check_stand : Cal P w K mg base CX0 "check_stand" 5 ["table", "floor", "walker"] (spStand K)) (C_judged_course : Cal P w K mg base CX0 "judged_course" 6 ["table", "floor", "walker", "paper"] (spJudged K CC C)) (C_check_number : Cal P w K mg base CX0 "check_number" 2 ["value", "least", "greatest"] spNumberOk) (C_check_place : Cal P w K mg base CX0 "check_place" 3 ["value"] (spPlaceChk K)) : Cal P w K mg base CX0 "right_course" 7 ["table", "floor", "walker", "paper", "step", "place"] (spRight K CC C) := by
  refine D.cal sc_right_course (fun vs H Q E h => ?_) (fun f cdv A outer s H vs Q E hr h => ?_)
  · obtain ⟨tv, fv, wv, pv, plv, step, pl, cc, n, B, T, F, w, p, rfl, _⟩ := h
    rfl
  · obtain ⟨tv, fv, wv, ppv, plv, step, pl, cc, n, B, Tb, Fl, wk, p, rfl, ht, hf, hw, hs, lB, hl, hp, po, hlen, hh, h0, h1, hpl, ipl, q⟩ := h
    refine ⟨_, (pss_cons (ps_expr (pe_own C_check_stand hr (by first | decide | omega) (pa_cons (pv 0) (pa_cons (pv 1) (pa_cons (pv 2) pa_nil)))))
      (pss_cons (ps_set (i := 6) sc_right_course.nd rfl (Or.inl rfl) (pe_own C_judged_course hr (by first | decide | omega) (pa_cons (pv 0) (pa_cons (pv 1) (pa_cons (pv 2) (pa_cons (pv 3) pa_nil))))))
      (pss_cons (ps_expr (pe_own C_check_number hr (by first | decide | omega) (pa_cons (pv 4) (pa_cons pe_int (pa_cons (pe_gint (by rfl) T.far) pa_nil)))))
      (pss_cons (ps_expr (pe_own C_check_place hr (by first | decide | omega) (pa_cons (pv 5) pa_nil)))
      (pss_cons (ps_if (pt_cmpR op_isN (pv 6) pe_non (nomark _)) (pss_one ps_never) pss_nil)
      (pss_one (ps_ret (pv 6)))))))), ?_⟩
    have lF : B ≤ FarI := Int.le_trans lB (by unfold FarI; decide)
    have hs2 := hs.mono lF
    walk_at "st"
    intro H1 s1
    clear hs2
    have ht1 := Tp.mono (Same.tk s1) _ _ ht
    have hf1 := Tp.mono (Same.tk s1) _ _ hf
    have hw1 := Tp.mono (Same.tk s1) _ _ hw
    have hp1 := Tp.mono (Same.tk s1) _ _ hp
    walk_at "st"
    intro c a D m1 m2 w1 w2 H2 hC s2
    have s12 := Same.trans s1 s2
    have hpl2 := Tp.mono (Same.tk s12) _ _ hpl
    obtain ⟨dx6, D0, D1', L2', L3', sv, ev, mv, us2, us3, hc6, _⟩ := id hC.ob
    walk_at "st"
    exact q c a D m1 m2 w1 w2 H2 hC s12
end

/-! ### a street that is right goes on for ever -/
def addP (q v : Pt) : Pt := (q.1 + v.1, q.2 + v.2)
def subP (q v : Pt) : Pt := (q.1 - v.1, q.2 - v.2)
def mvW (w : Wk) (v : Pt) : Wk := (w.1 + v.1, w.2.1 + v.2, w.2.2)
def mvL (v : Pt) (e : Wk × Int × Int) : Wk × Int × Int := (mvW e.1 v, e.2)
theorem sub_add (q v : Pt) : subP (addP q v) v = q := by
  show (q.1 + v.1 - v.1, q.2 + v.2 - v.2) = q
  rw [Int.add_sub_cancel, Int.add_sub_cancel]
theorem add_sub (q v : Pt) : addP (subP q v) v = q := by
  show (q.1 - v.1 + v.1, q.2 - v.2 + v.2) = q
  rw [Int.sub_add_cancel, Int.sub_add_cancel]
theorem addP_inj {p q v : Pt} : addP p v = addP q v ↔ p = q := ⟨fun h => by rw [← sub_add p v, h, sub_add], fun h => by rw [h]⟩
theorem mvW_pt (w : Wk) (v : Pt) : wPt (mvW w v) = addP (wPt w) v := rfl
theorem behind_mv (w : Wk) (v : Pt) (e : Int × Int × Int) : behind (mvW w v) e = mvW (behind w e) v := by
  show (w.1 + v.1 + dxI (turnI w e.2.1), w.2.1 + v.2 + dyI (turnI w e.2.1), turnI w e.2.1, e.2.2) = (w.1 + dxI (turnI w e.2.1) + v.1, w.2.1 + dyI (turnI w e.2.1) + v.2, turnI w e.2.1, e.2.2)
  rw [Int.add_right_comm w.1, Int.add_right_comm w.2.1]
theorem visOf_succ {T : List (List Ent)} {z y : WSt} {k : Nat} (h : runW T k z = some y) : visOf T z (k + 1) = visOf T z k ++ [(wPt y.2, y.1 (wPt y.2), ((entAt T y.2.2.2.2 (y.1 (wPt y.2))).map (·.1)).getD 0)] := by
  unfold visOf visL
  rw [told3_snoc h, List.map_append]
  rfl
theorem run_succ {T : List (List Ent)} {z z' : WSt} {k : Nat} (h : runW T (k + 1) z = some z') : ∃ y e, runW T k z = some y ∧ entAt T y.2.2.2.2 (y.1 (wPt y.2)) = some e ∧ z' = (dab y.1 (wPt y.2) e.1, behind y.2 e) := by
  have h : (runW T k z).bind (stepW T) = some z' := h
  cases q : runW T k z with
  | none =>
    rw [q] at h
    cases h
  | some y =>
    rw [q] at h
    have h : stepW T y = some z' := h
    unfold stepW at h
    cases he : entAt T y.2.2.2.2 (y.1 (wPt y.2)) with
    | none =>
      rw [he] at h
      cases h
    | some e =>
      rw [he] at h
      exact ⟨y, e, rfl, he, (Option.some.inj h).symm⟩
theorem step_of {T : List (List Ent)} {y : WSt} {e : Int × Int × Int} (he : entAt T y.2.2.2.2 (y.1 (wPt y.2)) = some e) : stepW T y = some (dab y.1 (wPt y.2) e.1, behind y.2 e) := by
  unfold stepW
  rw [he]
  rfl
theorem run_snoc {T : List (List Ent)} {z y : WSt} {k : Nat} (h : runW T k z = some y) : runW T (k + 1) z = stepW T y := by
  show (runW T k z).bind (stepW T) = _
  rw [h]
  rfl
/-- what a walk does to the floor: what is not visited stays, what is visited is as it was last painted; a place is first read as it was -/
theorem run_vis {T : List (List Ent)} {z : WSt} : ∀ {k : Nat} {z' : WSt}, runW T k z = some z' → (∀ q, q ∉ visP (visOf T z k) → z'.1 q = z.1 q) ∧ (∀ q, q ∈ visP (visOf T z k) → z'.1 q = lpt (visOf T z k) q ∧ frd (visOf T z k) q = z.1 q)
  | 0, z', h => by
    obtain rfl := Option.some.inj h
    exact ⟨fun _ _ => rfl, fun q hq => absurd hq List.not_mem_nil⟩
  | k + 1, z', h => by
    obtain ⟨y, e, hy, he, rfl⟩ := run_succ h
    obtain ⟨ih1, ih2⟩ := run_vis hy
    rw [visOf_succ hy, he]
    refine ⟨fun q hq => ?_, fun q hq => ?_⟩
    · have n1 : q ∉ visP (visOf T z k) := fun z => hq (visP_app.mpr (.inl z))
      have n2 : q ≠ wPt y.2 := fun z => hq (visP_app.mpr (.inr z))
      show (if q = wPt y.2 then e.1 else y.1 q) = _
      rw [if_neg n2]
      exact ih1 q n1
    · rw [lpt_app, frd_app]
      show (if q = wPt y.2 then e.1 else y.1 q) = (if wPt y.2 = q then e.1 else lpt (visOf T z k) q) ∧ _
      by_cases g : q = wPt y.2
      · rw [if_pos g, if_pos g.symm]
        refine ⟨rfl, ?_⟩
        by_cases v : q ∈ visP (visOf T z k)
        · rw [if_pos v]
          exact (ih2 q v).2
        · rw [if_neg v, if_pos g.symm]
          show y.1 (wPt y.2) = z.1 q
          rw [← g]
          exact ih1 q v
      · have v : q ∈ visP (visOf T z k) := (visP_app.mp hq).resolve_right g
        rw [if_neg g, if_neg (fun z => g z.symm), if_pos v]
        exact ih2 q v
theorem vis_more {T : List (List Ent)} {z y : WSt} {k : Nat} (h : runW T k z = some y) {q : Pt} (hq : q ∈ visP (visOf T z k)) : q ∈ visP (visOf T z (k + 1)) := by
  rw [visOf_succ h]
  exact visP_app.mpr (.inl hq)
theorem vis_here {T : List (List Ent)} {z y : WSt} {k : Nat} (h : runW T k z = some y) : wPt y.2 ∈ visP (visOf T z (k + 1)) := by
  rw [visOf_succ h]
  exact visP_app.mpr (.inr rfl)
/-- a walk on another floor, moved: the same walk, moved, where the places that it visits look alike -/
theorem run_sim {T : List (List Ent)} {z : WSt} {g : Pt → Int} {v : Pt} : ∀ {k : Nat} {z' : WSt}, runW T k z = some z' → (∀ q ∈ visP (visOf T z k), g (addP q v) = z.1 q) →
    ∃ h, runW T k (g, mvW z.2 v) = some (h, mvW z'.2 v) ∧ told3 T (g, mvW z.2 v) k = (told3 T z k).map (mvL v) ∧ ∀ p, h p = if subP p v ∈ visP (visOf T z k) then z'.1 (subP p v) else g p
  | 0, z', hz, _ => by
    obtain rfl := Option.some.inj hz
    exact ⟨g, rfl, rfl, fun p => by rw [if_neg]; exact List.not_mem_nil⟩
  | k + 1, z', hz, hg => by
    obtain ⟨y, e, hy, he, rfl⟩ := run_succ hz
    obtain ⟨h, h1, h2, h3⟩ := run_sim (g := g) (v := v) hy (fun q hq => hg q (vis_more hy hq))
    have hh := vis_here hy
    have rd : h (addP (wPt y.2) v) = y.1 (wPt y.2) := by
      rw [h3, sub_add]
      by_cases c : wPt y.2 ∈ visP (visOf T z k)
      · rw [if_pos c]
      · rw [if_neg c, hg _ hh, (run_vis hy).1 _ c]
    have he2 : entAt T (mvW y.2 v).2.2.2 (h (wPt (mvW y.2 v))) = some e := by
      rw [mvW_pt, rd]
      exact he
    refine ⟨dab h (addP (wPt y.2) v) e.1, ?_, ?_, fun p => ?_⟩
    · rw [run_snoc h1, step_of (y := (h, mvW y.2 v)) he2, behind_mv]
      rfl
    · rw [told3_snoc h1, told3_snoc hy, List.map_append, h2]
      show _ ++ [(mvW y.2 v, h (wPt (mvW y.2 v)), ((entAt T (mvW y.2 v).2.2.2 (h (wPt (mvW y.2 v)))).map (·.1)).getD 0)] = _ ++ [(mvW y.2 v, y.1 (wPt y.2), ((entAt T y.2.2.2.2 (y.1 (wPt y.2))).map (·.1)).getD 0)]
      rw [he2, he, mvW_pt, rd]
    · rw [visOf_succ hy]
      show (if p = addP (wPt y.2) v then e.1 else h p) = if subP p v ∈ visP _ then (if subP p v = wPt y.2 then e.1 else y.1 (subP p v)) else g p
      by_cases c : p = addP (wPt y.2) v
      · have c2 : subP p v = wPt y.2 := by rw [c, sub_add]
        rw [if_pos c, if_pos (visP_app.mpr (.inr c2)), if_pos c2]
      · have c2 : ¬ subP p v = wPt y.2 := fun q => c (by rw [← add_sub p v, q])
        rw [if_neg c, h3, if_neg c2]
        by_cases d : subP p v ∈ visP (visOf T z k)
        · rw [if_pos d, if_pos (visP_app.mpr (.inl d))]
        · rw [if_neg d, if_neg (fun q => (visP_app.mp q).elim d c2)]
/-- the floor behind so many rounds -/
def rndF (L : Vis) (m : Pt) (f : Pt → Int) : Nat → Pt → Int
  | 0 => f
  | k + 1 => fun p => if mvk p m (-(k : Int)) ∈ visP L then lpt L (mvk p m (-(k : Int))) else rndF L m f k p
theorem rnd_none {L : Vis} {m : Pt} {f : Pt → Int} {p : Pt} : ∀ {k : Nat}, (∀ i : Nat, i < k → mvk p m (-(i : Int)) ∉ visP L) → rndF L m f k p = f p
  | 0, _ => rfl
  | k + 1, h => by
    show (if mvk p m (-(k : Int)) ∈ visP L then _ else rndF L m f k p) = _
    rw [if_neg (h k (Nat.lt_succ_self k))]
    exact rnd_none fun i hi => h i (Nat.lt_succ_of_lt hi)
theorem rnd_at {L : Vis} {m : Pt} {f : Pt → Int} {p : Pt} {i : Nat} (hi : mvk p m (-(i : Int)) ∈ visP L) : ∀ {k : Nat}, i < k → (∀ j : Nat, i < j → j < k → mvk p m (-(j : Int)) ∉ visP L) → rndF L m f k p = lpt L (mvk p m (-(i : Int)))
  | 0, l, _ => absurd l (Nat.not_lt_zero _)
  | k + 1, l, h => by
    show (if mvk p m (-(k : Int)) ∈ visP L then lpt L (mvk p m (-(k : Int))) else rndF L m f k p) = _
    rcases Nat.lt_or_ge i k with c | c
    · rw [if_neg (h k c (Nat.lt_succ_self k))]
      exact rnd_at hi c fun j h1 h2 => h j h1 (Nat.lt_succ_of_lt h2)
    · obtain rfl : i = k := by omega
      rw [if_pos hi]
theorem mvk_mvk (q m : Pt) (a b : Int) : mvk (mvk q m a) m b = mvk q m (a + b) := mvk_add q m a b
/-- behind k rounds each place that a round visits looks as it was read first, k moves further -/
theorem rnd_reads {L : Vis} {f : Pt → Int} {m : Pt} (h : StreetOk L f m) (hf : ∀ q ∈ visP L, frd L q = f q) {q : Pt} (hq : q ∈ visP L) (k : Nat) : rndF L m f k (mvk q m (k : Int)) = f q := by
  have key : ∀ i : Nat, mvk (mvk q m (k : Int)) m (-(i : Int)) = mvk q m ((k : Int) - (i : Int)) := fun i => by
    rw [mvk_mvk]
    rfl
  rw [← hf q hq]
  rcases h q hq with ⟨k0, p0, h1, h2, h3⟩ | ⟨h1, h2⟩
  · obtain ⟨n0, rfl⟩ := Int.eq_ofNat_of_zero_le (Int.le_of_lt p0)
    rcases Nat.lt_or_ge k n0 with c | c
    · rw [rnd_none (fun i hi => ?_)]
      · cases k with
        | zero =>
          rw [show mvk q m ((0 : Nat) : Int) = q by
            show (q.1 + 0 * m.1, q.2 + 0 * m.2) = q
            rw [Int.zero_mul, Int.zero_mul, Int.add_zero, Int.add_zero]]
          exact (hf q hq).symm
        | succ k => exact (h3 ((k + 1 : Nat) : Int) (by omega) (by omega)).2
      · rw [key]
        exact (h3 ((k : Int) - (i : Int)) (by omega) (by omega)).1
    · have e1 : mvk (mvk q m (k : Int)) m (-((k - n0 : Nat) : Int)) = mvk q m (n0 : Int) := by
        rw [key]
        congr 1
        omega
      rw [rnd_at (i := k - n0) (by rw [e1]; exact h1) (by omega) (fun j j1 j2 => ?_), e1]
      · exact h2
      · rw [key]
        exact (h3 ((k : Int) - (j : Int)) (by omega) (by omega)).1
  · cases k with
    | zero =>
      show f (mvk q m ((0 : Nat) : Int)) = _
      rw [show mvk q m ((0 : Nat) : Int) = q by
        show (q.1 + 0 * m.1, q.2 + 0 * m.2) = q
        rw [Int.zero_mul, Int.zero_mul, Int.add_zero, Int.add_zero]]
      exact (hf q hq).symm
    | succ k =>
      rw [rnd_none (fun i hi => ?_), h1]
      · exact (h2 ((k + 1 : Nat) : Int) (by omega)).2
      · rw [key]
        exact (h2 (((k + 1 : Nat) : Int) - (i : Int)) (by omega)).1
def kmv (m : Pt) (k : Nat) : Pt := ((k : Int) * m.1, (k : Int) * m.2)
theorem addP_kmv (q m : Pt) (k : Nat) : addP q (kmv m k) = mvk q m (k : Int) := rfl
theorem subP_kmv (q m : Pt) (k : Nat) : subP q (kmv m k) = mvk q m (-(k : Int)) := by
  show (q.1 - (k : Int) * m.1, q.2 - (k : Int) * m.2) = (q.1 + -(k : Int) * m.1, q.2 + -(k : Int) * m.2)
  rw [Int.neg_mul, Int.neg_mul]
  rfl
/-- a street: each round is the first one, moved on -/
theorem street_rounds {T : List (List Ent)} {z1 z2 : WSt} {per : Nat} (hr : runW T per z1 = some z2) (hh : z2.2.2.2 = z1.2.2.2) (so : StreetOk (visOf T z1 per) z1.1 (mvOf z1 z2)) :
    ∀ k : Nat, runW T (k * per) z1 = some (rndF (visOf T z1 per) (mvOf z1 z2) z1.1 k, mvW z1.2 (kmv (mvOf z1 z2) k)) ∧
      ∀ j y, j ≤ per → runW T j z1 = some y → ∃ h, runW T (k * per + j) z1 = some (h, mvW y.2 (kmv (mvOf z1 z2) k)) ∧ told3 T (rndF (visOf T z1 per) (mvOf z1 z2) z1.1 k, mvW z1.2 (kmv (mvOf z1 z2) k)) j = (told3 T z1 j).map (mvL (kmv (mvOf z1 z2) k)) ∧
        ∀ p, h p = if subP p (kmv (mvOf z1 z2) k) ∈ visP (visOf T z1 j) then y.1 (subP p (kmv (mvOf z1 z2) k)) else rndF (visOf T z1 per) (mvOf z1 z2) z1.1 k p := by
  have fv : ∀ q ∈ visP (visOf T z1 per), frd (visOf T z1 per) q = z1.1 q := fun q hq => ((run_vis hr).2 q hq).2
  have sub : ∀ j y, j ≤ per → runW T j z1 = some y → ∀ q ∈ visP (visOf T z1 j), q ∈ visP (visOf T z1 per) := fun j y lj hy q hq => by
    unfold visOf visL visP at hq ⊢
    rw [← told3_take hr lj] at hq
    rw [List.map_take, List.map_take] at hq
    exact List.mem_of_mem_take hq
  have step : ∀ k : Nat, runW T (k * per) z1 = some (rndF (visOf T z1 per) (mvOf z1 z2) z1.1 k, mvW z1.2 (kmv (mvOf z1 z2) k)) → ∀ j y, j ≤ per → runW T j z1 = some y → ∃ h, runW T (k * per + j) z1 = some (h, mvW y.2 (kmv (mvOf z1 z2) k)) ∧ told3 T (rndF (visOf T z1 per) (mvOf z1 z2) z1.1 k, mvW z1.2 (kmv (mvOf z1 z2) k)) j = (told3 T z1 j).map (mvL (kmv (mvOf z1 z2) k)) ∧
        ∀ p, h p = if subP p (kmv (mvOf z1 z2) k) ∈ visP (visOf T z1 j) then y.1 (subP p (kmv (mvOf z1 z2) k)) else rndF (visOf T z1 per) (mvOf z1 z2) z1.1 k p := fun k hk j y lj hy => by
    obtain ⟨h, h1, h2, h3⟩ := run_sim (g := rndF (visOf T z1 per) (mvOf z1 z2) z1.1 k) (v := kmv (mvOf z1 z2) k) hy (fun q hq => by
      rw [addP_kmv]
      exact rnd_reads so fv (sub j y lj hy q hq) k)
    exact ⟨h, by rw [runW_add, hk]; exact h1, h2, h3⟩
  have main : ∀ k : Nat, runW T (k * per) z1 = some (rndF (visOf T z1 per) (mvOf z1 z2) z1.1 k, mvW z1.2 (kmv (mvOf z1 z2) k)) := fun k => by
    induction k with
    | zero =>
      rw [Nat.zero_mul]
      show some z1 = some (z1.1, (z1.2.1 + ((0 : Nat) : Int) * _, z1.2.2.1 + ((0 : Nat) : Int) * _, z1.2.2.2))
      rw [show ((0 : Nat) : Int) = 0 from rfl, Int.zero_mul, Int.zero_mul, Int.add_zero, Int.add_zero]
    | succ k ih =>
      obtain ⟨h, h1, _, h3⟩ := step k ih per z2 (Nat.le_refl _) hr
      rw [show (k + 1) * per = k * per + per by rw [Nat.succ_mul], h1]
      have e1 : h = rndF (visOf T z1 per) (mvOf z1 z2) z1.1 (k + 1) := by
        funext p
        rw [h3]
        show _ = if mvk p (mvOf z1 z2) (-(k : Int)) ∈ visP (visOf T z1 per) then lpt (visOf T z1 per) (mvk p (mvOf z1 z2) (-(k : Int))) else _
        rw [subP_kmv]
        by_cases c : mvk p (mvOf z1 z2) (-(k : Int)) ∈ visP (visOf T z1 per)
        · rw [if_pos c, if_pos c, ((run_vis hr).2 _ c).1]
        · rw [if_neg c, if_neg c]
      have e2 : mvW z2.2 (kmv (mvOf z1 z2) k) = mvW z1.2 (kmv (mvOf z1 z2) (k + 1)) := by
        show (z2.2.1 + (k : Int) * (z2.2.1 - z1.2.1), z2.2.2.1 + (k : Int) * (z2.2.2.1 - z1.2.2.1), z2.2.2.2) = (z1.2.1 + ((k + 1 : Nat) : Int) * (z2.2.1 - z1.2.1), z1.2.2.1 + ((k + 1 : Nat) : Int) * (z2.2.2.1 - z1.2.2.1), z1.2.2.2)
        have ex : ∀ a b : Int, b + (k : Int) * (b - a) = a + ((k + 1 : Nat) : Int) * (b - a) := fun a b => by
          rw [Int.natCast_add, Int.add_mul]
          show _ = a + ((k : Int) * (b - a) + 1 * (b - a))
          rw [Int.one_mul]
          omega
        rw [ex z1.2.1 z2.2.1, ex z1.2.2.1 z2.2.2.1, hh]
      rw [e1, e2]
  exact fun k => ⟨main k, step k (main k)⟩

/-! ### what goes on for long enough is a street -/
theorem run_same {T : List (List Ent)} {z : WSt} {g : Pt → Int} {v : Pt} : ∀ {k : Nat} {z' : WSt}, runW T k z = some z' →
    (∀ j, j < k → ∀ y, runW T j z = some y → ∃ h, runW T j (g, mvW z.2 v) = some (h, mvW y.2 v) ∧ h (addP (wPt y.2) v) = y.1 (wPt y.2)) → ∀ q ∈ visP (visOf T z k), g (addP q v) = z.1 q
  | 0, _, _, _, q, hq => absurd hq List.not_mem_nil
  | k + 1, z', hz, hr, q, hq => by
    obtain ⟨y, e, hy, he, rfl⟩ := run_succ hz
    have ih := run_same (g := g) (v := v) hy (fun j hj => hr j (Nat.lt_succ_of_lt hj))
    rw [visOf_succ hy] at hq
    by_cases c : q ∈ visP (visOf T z k)
    · exact ih q c
    · have eq : q = wPt y.2 := (visP_app.mp hq).resolve_left c
      obtain ⟨h, h1, _, h3⟩ := run_sim (g := g) (v := v) hy ih
      obtain ⟨h', h1', rd⟩ := hr k (Nat.lt_succ_self k) y hy
      rw [h1] at h1'
      have eh : h = h' := congrArg Prod.fst (Option.some.inj h1')
      subst eh
      rw [← eq, h3, sub_add, if_neg c, (run_vis hy).1 q c] at rd
      exact rd
/-- from a step on, what is read comes again a period later, moved -/
structure GoesOn (T : List (List Ent)) (z0 : WSt) (f per M : Nat) (m : Pt) : Prop where
  ne : m ≠ (0, 0)
  rd : ∀ t, f ≤ t → t + per < M → ∃ y y', runW T t z0 = some y ∧ runW T (t + per) z0 = some y' ∧ y'.2 = mvW y.2 m ∧ y'.1 (wPt y'.2) = y.1 (wPt y.2)
theorem kmv_succ (w : Wk) (m : Pt) (k : Nat) : mvW (mvW w (kmv m k)) m = mvW w (kmv m (k + 1)) := by
  show (w.1 + (k : Int) * m.1 + m.1, w.2.1 + (k : Int) * m.2 + m.2, w.2.2) = (w.1 + ((k + 1 : Nat) : Int) * m.1, w.2.1 + ((k + 1 : Nat) : Int) * m.2, w.2.2)
  rw [Int.natCast_add, Int.add_mul, Int.add_mul]
  show (_, _, _) = (w.1 + ((k : Int) * m.1 + 1 * m.1), w.2.1 + ((k : Int) * m.2 + 1 * m.2), w.2.2)
  rw [Int.one_mul, Int.one_mul, Int.add_assoc, Int.add_assoc]
/-- the walker and what it reads, so many periods later -/
theorem GoesOn.far {T : List (List Ent)} {z0 : WSt} {f per M : Nat} {m : Pt} (h : GoesOn T z0 f per M m) {t : Nat} (ft : f ≤ t) {y : WSt} (hy : runW T t z0 = some y) : ∀ k : Nat, t + k * per < M → ∃ y', runW T (t + k * per) z0 = some y' ∧ y'.2 = mvW y.2 (kmv m k) ∧ y'.1 (wPt y'.2) = y.1 (wPt y.2)
  | 0, _ => ⟨y, by rw [Nat.zero_mul]; exact hy, by
      show y.2 = (y.2.1 + ((0 : Nat) : Int) * m.1, y.2.2.1 + ((0 : Nat) : Int) * m.2, y.2.2.2)
      rw [show ((0 : Nat) : Int) = 0 from rfl, Int.zero_mul, Int.zero_mul, Int.add_zero, Int.add_zero], rfl⟩
  | k + 1, l => by
    have e : t + (k + 1) * per = t + k * per + per := by rw [Nat.succ_mul]; omega
    rw [e] at l ⊢
    obtain ⟨y1, h1, h2, h3⟩ := h.far ft hy k (by omega)
    obtain ⟨y2, y3, g1, g2, g3, g4⟩ := h.rd (t + k * per) (by omega) l
    rw [h1] at g1
    obtain rfl := Option.some.inj g1
    exact ⟨y3, g2, by rw [g3, h2, kmv_succ], by rw [g4, h3]⟩
theorem least_pos {P : Nat → Prop} (h : ∃ k, 0 < k ∧ P k) : ∃ k, 0 < k ∧ P k ∧ ∀ j, 0 < j → j < k → ¬ P j := by
  classical
  obtain ⟨k, hk⟩ := h
  have main : ∀ n k, k ≤ n → 0 < k ∧ P k → ∃ k, 0 < k ∧ P k ∧ ∀ j, 0 < j → j < k → ¬ P j := fun n => by
    induction n with
    | zero => exact fun k l h => absurd h.1 (by omega)
    | succ n ih =>
      intro k l h
      by_cases c : ∃ j, (0 < j ∧ P j) ∧ j < k
      · obtain ⟨j, hj, jl⟩ := c
        exact ih j (by omega) hj
      · exact ⟨k, h.1, h.2, fun j j0 jk hp => c ⟨j, ⟨j0, hp⟩, jk⟩⟩
  exact main k k (Nat.le_refl k) hk
theorem natAbs_mul_ge {j a : Int} (ha : a ≠ 0) : j.natAbs ≤ (j * a).natAbs := by
  rw [Int.natAbs_mul]
  have : 1 ≤ a.natAbs := by omega
  exact Nat.le_mul_of_pos_right _ this
/-- how far a painted square lies from the walker -/
theorem sup_near {T : List (List Ent)} {z0 z1 : WSt} {f : Nat} {B : Nat} (hw : ∀ p, z0.1 p ≠ 0 → (p.1 - z0.2.1).natAbs ≤ B ∧ (p.2 - z0.2.2.1).natAbs ≤ B) (h : runW T f z0 = some z1) {p : Pt} (hp : z1.1 p ≠ 0) : (p.1 - z1.2.1).natAbs ≤ f + B ∧ (p.2 - z1.2.2.1).natAbs ≤ f + B := by
  have n1 := run_near h
  by_cases c : p ∈ visP (visOf T z0 f)
  · obtain ⟨e, he, rfl⟩ := List.mem_map.mp c
    obtain ⟨x, hx, rfl⟩ := List.mem_map.mp he
    obtain ⟨i, y, l, h1, rfl⟩ := told3_mem hx
    obtain ⟨y', h1', h2⟩ := run_mid h (Nat.le_of_lt l)
    rw [h1] at h1'
    obtain rfl := Option.some.inj h1'
    have n2 := run_near h2
    show (y.2.1 - z1.2.1).natAbs ≤ f + B ∧ (y.2.2.1 - z1.2.2.1).natAbs ≤ f + B
    omega
  · rw [(run_vis h).1 p c] at hp
    have n2 := hw p hp
    omega
theorem GoesOn.street {T : List (List Ent)} {z0 z1 z2 : WSt} {f per M B : Nat} {m : Pt} (h : GoesOn T z0 f per M m) (p1 : 1 ≤ per) (h1 : runW T f z0 = some z1) (h2 : runW T per z1 = some z2) (hh : z2.2.2.2 = z1.2.2.2) (em : m = mvOf z1 z2)
    (hw : ∀ p, z0.1 p ≠ 0 → (p.1 - z0.2.1).natAbs ≤ B ∧ (p.2 - z0.2.2.1).natAbs ≤ B) (lM : f + (f + B + 2 * per + 2) * per < M) : StreetOk (visOf T z1 per) z1.1 m := by
  have fv : ∀ q ∈ visP (visOf T z1 per), frd (visOf T z1 per) q = z1.1 q := fun q hq => ((run_vis h2).2 q hq).2
  -- the rounds one behind the other
  have rounds : ∀ k : Nat, f + (k + 1) * per ≤ M → runW T (k * per) z1 = some (rndF (visOf T z1 per) m z1.1 k, mvW z1.2 (kmv m k)) ∧ (f + (k + 1) * per < M + 1 → ∀ q ∈ visP (visOf T z1 per), rndF (visOf T z1 per) m z1.1 k (mvk q m (k : Int)) = z1.1 q) := fun k => by
    have reads : ∀ k : Nat, f + (k + 1) * per ≤ M → runW T (k * per) z1 = some (rndF (visOf T z1 per) m z1.1 k, mvW z1.2 (kmv m k)) → ∀ q ∈ visP (visOf T z1 per), rndF (visOf T z1 per) m z1.1 k (mvk q m (k : Int)) = z1.1 q := fun k lk hk => by
      refine run_same (g := rndF (visOf T z1 per) m z1.1 k) (v := kmv m k) h2 (fun j jl y hy => ?_)
      have hfy : runW T (f + j) z0 = some y := by rw [runW_add, h1]; exact hy
      have e : f + j + k * per = f + (k * per + j) := by omega
      have e3 : (k + 1) * per = k * per + per := Nat.succ_mul k per
      obtain ⟨y', g1, g2, g3⟩ := h.far (Nat.le_add_right f j) hfy k (by omega)
      rw [e, runW_add, h1] at g1
      have g1 : runW T (k * per + j) z1 = some y' := g1
      rw [runW_add, hk] at g1
      have g1 : runW T j (rndF (visOf T z1 per) m z1.1 k, mvW z1.2 (kmv m k)) = some y' := g1
      refine ⟨y'.1, by rw [g1, ← g2], ?_⟩
      rw [← g3, g2]
      rfl
    induction k with
    | zero =>
      intro lk
      have r0 : runW T (0 * per) z1 = some (rndF (visOf T z1 per) m z1.1 0, mvW z1.2 (kmv m 0)) := by
        rw [Nat.zero_mul]
        show some z1 = some (z1.1, (z1.2.1 + ((0 : Nat) : Int) * _, z1.2.2.1 + ((0 : Nat) : Int) * _, z1.2.2.2))
        rw [show ((0 : Nat) : Int) = 0 from rfl, Int.zero_mul, Int.zero_mul, Int.add_zero, Int.add_zero]
      exact ⟨r0, fun _ => reads 0 lk r0⟩
    | succ k ih =>
      intro lk
      have e3 : (k + 1 + 1) * per = (k + 1) * per + per := Nat.succ_mul (k + 1) per
      have e4 : (k + 1) * per = k * per + per := Nat.succ_mul k per
      obtain ⟨hk, hq⟩ := ih (by omega)
      have hq := hq (by omega)
      obtain ⟨hf, g1, _, g3⟩ := run_sim (g := rndF (visOf T z1 per) m z1.1 k) (v := kmv m k) h2 (fun q hq2 => by rw [addP_kmv]; exact hq q hq2)
      have r1 : runW T ((k + 1) * per) z1 = some (rndF (visOf T z1 per) m z1.1 (k + 1), mvW z1.2 (kmv m (k + 1))) := by
        rw [e4, runW_add, hk]
        show runW T per (rndF (visOf T z1 per) m z1.1 k, mvW z1.2 (kmv m k)) = _
        rw [g1]
        have e1 : hf = rndF (visOf T z1 per) m z1.1 (k + 1) := by
          funext p
          rw [g3]
          show _ = if mvk p m (-(k : Int)) ∈ visP (visOf T z1 per) then lpt (visOf T z1 per) (mvk p m (-(k : Int))) else _
          rw [subP_kmv]
          by_cases c : mvk p m (-(k : Int)) ∈ visP (visOf T z1 per)
          · rw [if_pos c, if_pos c, ((run_vis h2).2 _ c).1]
          · rw [if_neg c, if_neg c]
        have e2 : mvW z2.2 (kmv m k) = mvW z1.2 (kmv m (k + 1)) := by
          rw [← kmv_succ]
          show (z2.2.1 + (k : Int) * m.1, z2.2.2.1 + (k : Int) * m.2, z2.2.2.2) = (z1.2.1 + (k : Int) * m.1 + m.1, z1.2.2.1 + (k : Int) * m.2 + m.2, z1.2.2.2)
          rw [hh, em]
          show (_, _, _) = (z1.2.1 + (k : Int) * (z2.2.1 - z1.2.1) + (z2.2.1 - z1.2.1), z1.2.2.1 + (k : Int) * (z2.2.2.1 - z1.2.2.1) + (z2.2.2.1 - z1.2.2.1), _)
          congr 1
          · show z2.2.1 + (k : Int) * (z2.2.1 - z1.2.1) = _
            omega
          · congr 1
            show z2.2.2.1 + (k : Int) * (z2.2.2.1 - z1.2.2.1) = _
            omega
        rw [e1, e2]
      exact ⟨r1, fun _ => reads (k + 1) lk r1⟩
  have lkM : ∀ k : Nat, k ≤ f + B + 2 * per + 1 → f + (k + 1) * per ≤ M := fun k l => by
    have := Nat.mul_le_mul_right per (show k + 1 ≤ f + B + 2 * per + 2 by omega)
    omega
  have vn : ∀ {q : Pt}, q ∈ visP (visOf T z1 per) → (q.1 - z1.2.1).natAbs ≤ per ∧ (q.2 - z1.2.2.1).natAbs ≤ per := fun hq => visOf_near hq
  have m0 : m.1 ≠ 0 ∨ m.2 ≠ 0 := by
    rcases Classical.em (m.1 = 0) with a | a
    · rcases Classical.em (m.2 = 0) with b | b
      · exact absurd (Prod.ext a b) h.ne
      · exact .inr b
    · exact .inl a
  have sup : ∀ {q : Pt}, q ∈ visP (visOf T z1 per) → ∀ j : Int, (f + B + per : Int) < j → z1.1 (mvk q m j) = 0 := fun {q} hq j lj => by
    rcases Classical.em (z1.1 (mvk q m j) = 0) with c | c
    · exact c
    · exfalso
      have s := sup_near hw h1 c
      have v := vn hq
      have s1 : (q.1 + j * m.1 - z1.2.1).natAbs ≤ f + B := s.1
      have s2 : (q.2 + j * m.2 - z1.2.2.1).natAbs ≤ f + B := s.2
      rcases m0 with a | a
      · have := natAbs_mul_ge (j := j) a
        omega
      · have := natAbs_mul_ge (j := j) a
        omega
  intro q hq
  have key : ∀ (k i : Nat), mvk (mvk q m (k : Int)) m (-(i : Int)) = mvk q m ((k : Int) - (i : Int)) := fun k i => by
    rw [mvk_mvk]
    rfl
  -- as long as no place that the round visits lies between
  have free : ∀ k : Nat, 0 < k → k ≤ f + B + 2 * per + 1 → (∀ j : Nat, 0 < j → j ≤ k → mvk q m (j : Int) ∉ visP (visOf T z1 per)) → z1.1 (mvk q m (k : Int)) = frd (visOf T z1 per) q := fun k k0 lk hno => by
    rw [fv q hq, ← (rounds k (lkM k lk)).2 (by have := lkM k lk; omega) q hq, rnd_none]
    intro i hi
    rw [key]
    have := hno (k - i) (by omega) (by omega)
    rw [show ((k - i : Nat) : Int) = (k : Int) - (i : Int) by omega] at this
    exact this
  by_cases ex : ∃ k : Nat, 0 < k ∧ mvk q m (k : Int) ∈ visP (visOf T z1 per)
  · obtain ⟨k0, k0p, hk0, mn⟩ := least_pos ex
    have k0l : k0 ≤ 2 * per := by
      have v1 := vn hq
      have v2 := vn hk0
      have v21 : (q.1 + (k0 : Int) * m.1 - z1.2.1).natAbs ≤ per := v2.1
      have v22 : (q.2 + (k0 : Int) * m.2 - z1.2.2.1).natAbs ≤ per := v2.2
      rcases m0 with a | a
      · have := natAbs_mul_ge (j := (k0 : Int)) a
        omega
      · have := natAbs_mul_ge (j := (k0 : Int)) a
        omega
    have nov : ∀ j : Nat, 0 < j → j < k0 → mvk q m (j : Int) ∉ visP (visOf T z1 per) := mn
    refine .inl ⟨(k0 : Int), by omega, hk0, ?_, fun j j0 jk => ?_⟩
    · have e0 : mvk (mvk q m (k0 : Int)) m (-((0 : Nat) : Int)) = mvk q m (k0 : Int) := by
        rw [key]
        congr 1
      rw [fv q hq, ← (rounds k0 (lkM k0 (by omega))).2 (by have := lkM k0 (by omega); omega) q hq, rnd_at (i := 0) (by rw [e0]; exact hk0) k0p (fun j j1 j2 => ?_), e0]
      rw [key]
      have := nov (k0 - j) (by omega) (by omega)
      rw [show ((k0 - j : Nat) : Int) = (k0 : Int) - (j : Int) by omega] at this
      exact this
    · obtain ⟨n, rfl⟩ := Int.eq_ofNat_of_zero_le (Int.le_of_lt j0)
      have n0 : 0 < n := by omega
      have nk : n < k0 := by omega
      exact ⟨nov n n0 nk, free n n0 (by omega) (fun i i0 il => nov i i0 (by omega))⟩
  · refine .inr ?_
    have no : ∀ j : Int, 0 < j → mvk q m j ∉ visP (visOf T z1 per) := fun j j0 hm => ex ⟨j.toNat, by omega, by rw [show ((j.toNat : Nat) : Int) = j by omega]; exact hm⟩
    have fz : frd (visOf T z1 per) q = 0 := by
      rw [← free (f + B + per + 1) (by omega) (by omega) (fun j j0 _ => no j (by omega))]
      exact sup hq _ (by omega)
    refine ⟨fz, fun j j0 => ⟨no j j0, ?_⟩⟩
    rcases Int.lt_or_le (f + B + per : Int) j with c | c
    · exact sup hq j c
    · have := free j.toNat (by omega) (by omega) (fun i i0 _ => no i (by omega))
      rw [show ((j.toNat : Nat) : Int) = j by omega, fz] at this
      exact this
/-- a street that is right goes on as far as one looks -/
theorem street_goes {T : List (List Ent)} {z0 z1 z2 : WSt} {f per M : Nat} (p1 : 1 ≤ per) (h1 : runW T f z0 = some z1) (h2 : runW T per z1 = some z2) (hh : z2.2.2.2 = z1.2.2.2) (ne : mvOf z1 z2 ≠ (0, 0)) (so : StreetOk (visOf T z1 per) z1.1 (mvOf z1 z2)) : GoesOn T z0 f per M (mvOf z1 z2) := by
  refine ⟨ne, fun t ft _ => ?_⟩
  obtain ⟨d, rfl⟩ : ∃ d, t = f + d := ⟨t - f, by omega⟩
  have dm := Nat.div_add_mod d per
  have ml := Nat.mod_lt d (show per > 0 by omega)
  obtain ⟨y, hy, _⟩ := run_mid h2 (Nat.le_of_lt ml)
  have fv : ∀ q ∈ visP (visOf T z1 per), frd (visOf T z1 per) q = z1.1 q := fun q hq => ((run_vis h2).2 q hq).2
  have vy : wPt y.2 ∈ visP (visOf T z1 per) := by
    have a := vis_here hy
    unfold visOf visL visP at a ⊢
    rw [← told3_take h2 (show d % per + 1 ≤ per by omega), List.map_take, List.map_take] at a
    exact List.mem_of_mem_take a
  have at_ : ∀ k : Nat, ∃ h, runW T (f + (k * per + d % per)) z0 = some (h, mvW y.2 (kmv (mvOf z1 z2) k)) ∧ h (wPt (mvW y.2 (kmv (mvOf z1 z2) k))) = y.1 (wPt y.2) := fun k => by
    obtain ⟨h, g1, _, g3⟩ := (street_rounds h2 hh so k).2 (d % per) y (Nat.le_of_lt ml) hy
    refine ⟨h, by rw [runW_add, h1]; exact g1, ?_⟩
    rw [mvW_pt, g3, sub_add]
    by_cases c : wPt y.2 ∈ visP (visOf T z1 (d % per))
    · rw [if_pos c]
    · rw [if_neg c, addP_kmv, rnd_reads so fv vy k, (run_vis hy).1 _ c]
  obtain ⟨h, a1, a2⟩ := at_ (d / per)
  obtain ⟨h', b1, b2⟩ := at_ (d / per + 1)
  have e1 : f + (d / per * per + d % per) = f + d := by rw [Nat.mul_comm]; omega
  have e2 : f + ((d / per + 1) * per + d % per) = f + d + per := by rw [Nat.succ_mul, Nat.mul_comm]; omega
  rw [e1] at a1
  rw [e2] at b1
  exact ⟨_, _, a1, b1, (kmv_succ y.2 (mvOf z1 z2) (d / per)).symm, b2.trans a2.symm⟩

/-! ### written values: tuples of tuples of ints -/
def LitE (K : PySem.W.Frag) (te : TE) (d : PyData) : Prop := ∀ σ H (Q : VK), (∀ v H', Tp K H' v d → Same H H' → Q v H') → te σ H Q
def LitA (K : PySem.W.Frag) (t : TA) (ds : List PyData) : Prop := ∀ σ H (Q : List V → Hp → Prop), (∀ vs H', TpAll K H' vs ds → Same H H' → Q vs H') → t σ H Q
section
variable {K : PySem.W.Frag}
theorem litI {i : Int} : LitE K (tC (.int i)) (.int i) := fun _ H _ q => q _ H (.int i) (Same.refl H)
theorem litNone : LitE K (tC .non) .none := fun _ H _ q => q _ H .non (Same.refl H)
theorem litNil : LitA K tNil [] := fun _ H _ q => q _ H .nil (Same.refl H)
theorem litCons {te : TE} {t : TA} {d : PyData} {ds : List PyData} (h1 : LitE K te d) (h2 : LitA K t ds) : LitA K (tCons te t) (d :: ds) := fun σ H Q q =>
  h1 σ H _ fun v H1 hv s1 => h2 σ H1 _ fun vs H2 hvs s2 => q _ H2 (.cons (Tp.mono (Same.tk s2) _ _ hv) hvs) (Same.trans s1 s2)
theorem litT {t : TA} {ds : List PyData} (h : LitA K t ds) (l : ds.length ≤ 1000) : LitE K (tTup t) (.tuple ds) := fun σ H Q q =>
  h σ H _ fun vs H1 hvs s1 => ⟨small_le (by rw [TpAll.length hvs]; exact l), fun p np => q _ _ (.tup (SqT.of upd_same) (TpAll.mono (Same.tk (Same.new np)) _ _ hvs)) (Same.trans s1 (Same.new np))⟩
theorem litNeg {i : Int} : LitE K (tUn (rU fun i => .int (-i)) (tC (.int i))) (.int (-i)) := fun _ H _ q => ⟨i, rfl, q _ H (.int (-i)) (Same.refl H)⟩
theorem seq_lit {te : TE} {d : PyData} {i : Nat} {u : TS} {D : L2.Ends} {σ : L2.St} {H : Hp} (h : LitE K te d) (q : ∀ v H', Tp K H' v d → Same H H' → u D (σ.set i (some v)) H') : tSeq (tAsg te (gName i)) u D σ H := h _ _ _ q
end
local macro_rules | `(tactic| walk_at "lit") => `(tactic| (repeat (first | exact litI | exact litNone | exact litNil | exact litNeg | refine litCons ?_ ?_ | refine litT ?_ ?_ | exact Nat.le_of_ble_eq_true rfl)))
/-! ### tables with streets -/
abbrev Kn := List (List Ent) × Nat × Nat × Pt
def kn1 : Kn := ([[some (1, 1, 0), some (2, 1, 0), some (0, 3, 0)]], 39, 18, (1, 1))
def kn2 : Kn := ([[some (1, 1, 1), some (0, 3, 0)], [some (1, 0, 0), some (1, 1, 0)]], 58, 10, (-1, -1))
def kn3 : Kn := ([[some (0, 3, 1), some (1, 3, 0)], [some (1, 0, 0), some (1, 2, 1)]], 8, 15, (1, -2))
def kn4 : Kn := ([[some (2, 0, 1), some (0, 3, 1), some (0, 1, 0)], [some (1, 1, 1), some (0, 1, 0), some (1, 1, 1)]], 5, 6, (1, -1))
def kn5 : Kn := ([[some (1, 3, 0), some (2, 2, 0), some (0, 0, 0)]], 36, 15, (-1, 0))
def knL : List Kn := [kn1, kn2, kn3, kn4, kn5]
def knD (k : Kn) : PyData := .tuple [tabD k.1, .int k.2.1, .int k.2.2.1, .tuple [.int k.2.2.2.1, .int k.2.2.2.2]]
theorem kn_ok : ∀ k ∈ knL, ∃ c n, 1 ≤ n ∧ n ≤ 2 ∧ 2 ≤ c ∧ c ≤ 3 ∧ TabOk c n k.1 := by
  have key : ∀ {T : List (List Ent)} {c n : Nat}, T.length = n → (T.all fun r => decide (r.length = c) && r.all (entB c n)) = true → TabOk c n T := fun {T c n} h1 h2 => ⟨h1, fun r hr => by
    have z := List.all_eq_true.mp h2 r hr
    simp only [Bool.and_eq_true, decide_eq_true_eq, List.all_eq_true] at z
    exact ⟨z.1, fun e he => entB_ok (z.2 e he)⟩⟩
  intro k hk
  rcases List.mem_cons.mp hk with rfl | hk
  · exact ⟨3, 1, by decide, by decide, by decide, by decide, key rfl (by decide +kernel)⟩
  rcases List.mem_cons.mp hk with rfl | hk
  · exact ⟨2, 2, by decide, by decide, by decide, by decide, key rfl (by decide +kernel)⟩
  rcases List.mem_cons.mp hk with rfl | hk
  · exact ⟨2, 2, by decide, by decide, by decide, by decide, key rfl (by decide +kernel)⟩
  rcases List.mem_cons.mp hk with rfl | hk
  · exact ⟨3, 2, by decide, by decide, by decide, by decide, key rfl (by decide +kernel)⟩
  rw [List.mem_singleton.mp hk]
  exact ⟨3, 1, by decide, by decide, by decide, by decide, key rfl (by decide +kernel)⟩
def spKnown (K : PySem.W.Frag) : Sp := fun vs H Q _ => vs = [] ∧ ∀ (L : Addr) (us : List V) (H' : Hp), H L = none → H' L = some (.lst us) → TpAll K H' us (knL.map knD) → Same H H' → Q (.ref L) H'
section
variable {P : Program} {w : World} {K : PySem.W.Frag} {mg : Str → Option Value} {base : Heap}
theorem ok_law_known (T : Txt K mg) (D : DefAt K mg "_law_known" s_law_known []) : Cal P w K mg base CX0 "_law_known" 1 [] (spKnown K) := by
  refine D.cal sc_law_known (fun vs H Q E h => ?_) (fun f cdv A outer s H vs Q E hr h => ?_)
  · obtain ⟨rfl, _⟩ := h
    rfl
  · obtain ⟨rfl, q⟩ := h
    refine ⟨_, (pss_cons (ps_set (i := 0) sc_law_known.nd rfl (Or.inl rfl) (pe_tup (pa_cons (pe_tup (pa_cons (pe_tup (pa_cons (pe_tup (pa_cons pe_int (pa_cons pe_int (pa_cons pe_int pa_nil)))) (pa_cons (pe_tup (pa_cons pe_int (pa_cons pe_int (pa_cons pe_int pa_nil)))) (pa_cons (pe_tup (pa_cons pe_int (pa_cons pe_int (pa_cons pe_int pa_nil)))) pa_nil)))) pa_nil)) (pa_cons pe_int (pa_cons pe_int (pa_cons (pe_tup (pa_cons pe_int (pa_cons pe_int pa_nil))) pa_nil))))))
      (pss_cons (ps_set (i := 1) sc_law_known.nd rfl (Or.inl rfl) (pe_tup (pa_cons (pe_tup (pa_cons (pe_tup (pa_cons (pe_tup (pa_cons pe_int (pa_cons pe_int (pa_cons pe_int pa_nil)))) (pa_cons (pe_tup (pa_cons pe_int (pa_cons pe_int (pa_cons pe_int pa_nil)))) pa_nil))) (pa_cons (pe_tup (pa_cons (pe_tup (pa_cons pe_int (pa_cons pe_int (pa_cons pe_int pa_nil)))) (pa_cons (pe_tup (pa_cons pe_int (pa_cons pe_int (pa_cons pe_int pa_nil)))) pa_nil))) pa_nil))) (pa_cons pe_int (pa_cons pe_int (pa_cons (pe_tup (pa_cons (pe_un un_neg pe_int) (pa_cons (pe_un un_neg pe_int) pa_nil))) pa_nil))))))
      (pss_cons (ps_set (i := 2) sc_law_known.nd rfl (Or.inl rfl) (pe_tup (pa_cons (pe_tup (pa_cons (pe_tup (pa_cons (pe_tup (pa_cons pe_int (pa_cons pe_int (pa_cons pe_int pa_nil)))) (pa_cons (pe_tup (pa_cons pe_int (pa_cons pe_int (pa_cons pe_int pa_nil)))) pa_nil))) (pa_cons (pe_tup (pa_cons (pe_tup (pa_cons pe_int (pa_cons pe_int (pa_cons pe_int pa_nil)))) (pa_cons (pe_tup (pa_cons pe_int (pa_cons pe_int (pa_cons pe_int pa_nil)))) pa_nil))) pa_nil))) (pa_cons pe_int (pa_cons pe_int (pa_cons (pe_tup (pa_cons pe_int (pa_cons (pe_un un_neg pe_int) pa_nil))) pa_nil))))))
      (pss_cons (ps_set (i := 3) sc_law_known.nd rfl (Or.inl rfl) (pe_tup (pa_cons (pe_tup (pa_cons (pe_tup (pa_cons (pe_tup (pa_cons pe_int (pa_cons pe_int (pa_cons pe_int pa_nil)))) (pa_cons (pe_tup (pa_cons pe_int (pa_cons pe_int (pa_cons pe_int pa_nil)))) (pa_cons (pe_tup (pa_cons pe_int (pa_cons pe_int (pa_cons pe_int pa_nil)))) pa_nil)))) (pa_cons (pe_tup (pa_cons (pe_tup (pa_cons pe_int (pa_cons pe_int (pa_cons pe_int pa_nil)))) (pa_cons (pe_tup (pa_cons pe_int (pa_cons pe_int (pa_cons pe_int pa_nil)))) (pa_cons (pe_tup (pa_cons pe_int (pa_cons pe_int (pa_cons pe_int pa_nil)))) pa_nil)))) pa_nil))) (pa_cons pe_int (pa_cons pe_int (pa_cons (pe_tup (pa_cons pe_int (pa_cons (pe_un un_neg pe_int) pa_nil))) pa_nil))))))
      (pss_cons (ps_set (i := 4) sc_law_known.nd rfl (Or.inl rfl) (pe_tup (pa_cons (pe_tup (pa_cons (pe_tup (pa_cons (pe_tup (pa_cons pe_int (pa_cons pe_int (pa_cons pe_int pa_nil)))) (pa_cons (pe_tup (pa_cons pe_int (pa_cons pe_int (pa_cons pe_int pa_nil)))) (pa_cons (pe_tup (pa_cons pe_int (pa_cons pe_int (pa_cons pe_int pa_nil)))) pa_nil)))) pa_nil)) (pa_cons pe_int (pa_cons pe_int (pa_cons (pe_tup (pa_cons (pe_un un_neg pe_int) (pa_cons pe_int pa_nil))) pa_nil))))))
      (pss_one (ps_ret (pe_lst (pa_cons (pv 0) (pa_cons (pv 1) (pa_cons (pv 2) (pa_cons (pv 3) (pa_cons (pv 4) pa_nil))))))))))))), ?_⟩
    refine seq_lit (K := K) (d := knD kn1) (by walk_at "lit") fun v1 H1 h1 s1 => ?_
    refine seq_lit (K := K) (d := knD kn2) (by walk_at "lit") fun v2 H2 h2 s2 => ?_
    refine seq_lit (K := K) (d := knD kn3) (by walk_at "lit") fun v3 H3 h3 s3 => ?_
    refine seq_lit (K := K) (d := knD kn4) (by walk_at "lit") fun v4 H4 h4 s4 => ?_
    refine seq_lit (K := K) (d := knD kn5) (by walk_at "lit") fun v5 H5 h5 s5 => ?_
    have s04 := Same.trans s1 (Same.trans s2 (Same.trans s3 (Same.trans s4 s5)))
    walk_at "st"
    intro L nL
    have s6 : Same H5 (upd H5 L (.lst [v1, v2, v3, v4, v5])) := Same.new nL
    have t5 := Same.tk s6
    have t4 := (Same.tk s5).trans t5
    have t3 := (Same.tk s4).trans t4
    have t2 := (Same.tk s3).trans t3
    have t1 := (Same.tk s2).trans t2
    exact q L _ _ (Same.back s04 nL) upd_same (.cons (Tp.mono t1 _ _ h1) (.cons (Tp.mono t2 _ _ h2) (.cons (Tp.mono t3 _ _ h3) (.cons (Tp.mono t4 _ _ h4) (.cons (Tp.mono t5 _ _ h5) .nil))))) (Same.trans s04 s6)
end

/-! ### one of some things -/
def spPick (K : PySem.W.Frag) : Sp := fun vs H Q _ => ∃ (r L : Addr) (xs : List V), vs = [.ref r, .ref L] ∧ Row K H r ∧ H L = some (.lst xs) ∧ L ≠ r ∧ 1 ≤ xs.length ∧ xs.length ≤ 5000 ∧ ∀ (v : V) (H' : Hp) (k : Nat), xs[k]? = some v → Row K H' r → KeepB r H H' → Q v H'
section
variable {P : Program} {w : World} {K : PySem.W.Frag} {mg : Str → Option Value} {base : Heap}
local macro_rules | `(tactic| walk_at "cl") => `(tactic| first | (refine le_only ?_; omega) | (refine lt_only ?_; omega))
theorem ok_law_pick (T : Txt K mg) (D : DefAt K mg "_law_pick" s_law_pick ["row", "things"]) (C_law_taken : Cal P w K mg base CX0 "_law_taken" 1 ["row", "many"] (spTaken K)) : Cal P w K mg base CX0 "_law_pick" 2 ["row", "things"] (spPick K) := by
  refine D.cal sc_law_pick (fun vs H Q E h => ?_) (fun f cdv A outer s H vs Q E hr h => ?_)
  · obtain ⟨r, L, xs, rfl, _⟩ := h
    rfl
  · obtain ⟨r, L, xs, rfl, R, hL, ne, l1, l100, q⟩ := h
    refine ⟨_, (pss_one (ps_ret (pe_ix (k_ix_list (K := K)) (pv 1) (pe_own C_law_taken hr (by first | decide | omega) (pa_cons (pv 0) (pa_cons (pe_callB (k_len_l (K := K)) (by rfl) T.m_len (by decide +kernel) (pa_cons (pv 1) pa_nil)) pa_nil))) (fun _ _ => rfl)))), ?_⟩
    have hSL := SqL.of (K := K) hL
    have c1 : (0 : Int) < xs.length := by omega
    have c2 : (xs.length : Int) < 2 ^ 250 := by omega
    walk_at "st"
    intro v H1 v0 v1 R1 k1
    have hL1 := k1 _ _ ne hL
    have hSL1 := SqL.of (K := K) hL1
    have lv : v.toNat < xs.length := by omega
    have ev : xs[v.toNat]? = some xs[v.toNat] := List.getElem?_eq_getElem lv
    have hat : atI xs v = some xs[v.toNat] := by
      have z := atI_nat ev
      rw [show ((v.toNat : Nat) : Int) = v by omega] at z
      exact z
    walk_at "st"
    exact q _ _ _ ev R1 k1
end

/-! ### the law's floors and walkers -/
def spSigned (K : PySem.W.Frag) : Sp := fun vs H Q _ => ∃ (r : Addr) (most : Int), vs = [.ref r, .int most] ∧ Row K H r ∧ 0 ≤ most ∧ most < 2 ^ 200 ∧ ∀ (v : Int) (H' : Hp), -most ≤ v → v ≤ most → Row K H' r → KeepB r H H' → Q (.int v) H'
def spLWalker (K : PySem.W.Frag) : Sp := fun vs H Q _ => ∃ (r : Addr) (tv : V) (T : List (List Ent)), vs = [.ref r, tv] ∧ Row K H r ∧ Tp K H tv (tabD T) ∧ 1 ≤ T.length ∧ T.length ≤ 10 ∧ ∀ (v : V) (H' : Hp) (w : Wk), InB 3 (wPt w) → (0 ≤ w.2.2.1 ∧ w.2.2.1 < 4) → (0 ≤ w.2.2.2 ∧ w.2.2.2 < T.length) → Tp K H' v (wkD w) → Row K H' r → KeepB r H H' → Q v H'
def spLAhead (K : PySem.W.Frag) : Sp := fun vs H Q _ => ∃ (b : Addr) (x y h : Int), vs = [.ref b, .int h] ∧ SqT K H b [.int x, .int y] ∧ 0 ≤ h ∧ h < 4 ∧ ∀ p H', H' p = some (.tup [.int (x + dxI h), .int (y + dyI h)]) → Same H H' → Q (.ref p) H'
theorem dx_at {h : Int} (h0 : 0 ≤ h) (h1 : h < 4) : atI ([.int 0, .int 1, .int 0, .int (-1)] : List V) h = some (.int (dxI h)) ∧ atI ([.int (-1), .int 0, .int 1, .int 0] : List V) h = some (.int (dyI h)) := by
  obtain ⟨n, rfl⟩ := Int.eq_ofNat_of_zero_le h0
  have c : n = 0 ∨ n = 1 ∨ n = 2 ∨ n = 3 := by omega
  rcases c with rfl | rfl | rfl | rfl
  · exact ⟨at0, at0⟩
  · exact ⟨at1, at1⟩
  · exact ⟨at2, at2⟩
  · exact ⟨at3, at3⟩
section
variable {P : Program} {w : World} {K : PySem.W.Frag} {mg : Str → Option Value} {base : Heap}
theorem ok_law_signed (T : Txt K mg) (D : DefAt K mg "_law_signed" s_law_signed ["row", "most"]) (C_law_taken : Cal P w K mg base CX0 "_law_taken" 1 ["row", "many"] (spTaken K)) : Cal P w K mg base CX0 "_law_signed" 2 ["row", "most"] (spSigned K) := by
  refine D.cal sc_law_signed (fun vs H Q E h => ?_) (fun f cdv A outer s H vs Q E hr h => ?_)
  · obtain ⟨r, most, rfl, _⟩ := h
    rfl
  · obtain ⟨r, most, rfl, R, h0, h1, q⟩ := h
    refine ⟨_, (pss_one (ps_ret (pe_op op_sub (pe_own C_law_taken hr (by first | decide | omega) (pa_cons (pv 0) (pa_cons (pe_op op_add (pe_op op_mul pe_int (pv 1)) pe_int) pa_nil))) (pv 1)))), ?_⟩
    have hmul : CMul 2 most := .inl ⟨by decide, by decide⟩
    have b1 : 2 * most + 1 < 2 ^ 250 := by omega
    walk_at "st"
    intro v H' v0 v1 R' k'
    walk_at "st"
    exact q _ H' (by omega) (by omega) R' k'
theorem ok_law_walker (T : Txt K mg) (D : DefAt K mg "_law_walker" s_law_walker ["row", "table"]) (C_law_taken : Cal P w K mg base CX0 "_law_taken" 1 ["row", "many"] (spTaken K)) (C_law_signed : Cal P w K mg base CX0 "_law_signed" 2 ["row", "most"] (spSigned K)) : Cal P w K mg base CX0 "_law_walker" 3 ["row", "table"] (spLWalker K) := by
  refine D.cal sc_law_walker (fun vs H Q E h => ?_) (fun f cdv A outer s H vs Q E hr h => ?_)
  · obtain ⟨r, tv, T, rfl, _⟩ := h
    rfl
  · obtain ⟨r, tv, Tb, rfl, R, ht, l1, l10, q⟩ := h
    refine ⟨_, (pss_one (ps_ret (pe_tup (pa_cons (pe_own C_law_signed hr (by first | decide | omega) (pa_cons (pv 0) (pa_cons pe_int pa_nil))) (pa_cons (pe_own C_law_signed hr (by first | decide | omega) (pa_cons (pv 0) (pa_cons pe_int pa_nil))) (pa_cons (pe_own C_law_taken hr (by first | decide | omega) (pa_cons (pv 0) (pa_cons pe_int pa_nil))) (pa_cons (pe_own C_law_taken hr (by first | decide | omega) (pa_cons (pv 0) (pa_cons (pe_callB (k_len_t (K := K)) (by rfl) T.m_len (by decide +kernel) (pa_cons (pv 1) pa_nil)) pa_nil))) pa_nil))))))), ?_⟩
    walk_at "st"
    intro x H1 x0 x1 R1 k1
    walk_at "st"
    intro y H2 y0 y1 R2 k2
    walk_at "st"
    intro hd H3 d0 d1 R3 k3
    have k03 : KeepB r H H3 := (k1.trans k2).trans k3
    obtain ⟨a, vs, rfl, h1, h2⟩ := (Tp.mono (k03.row R) _ _ ht).tupI
    have hlen : vs.length = Tb.length := by rw [TpAll.length h2, List.length_map]
    have c1 : (0 : Int) < vs.length := by omega
    have c2 : (vs.length : Int) < 2 ^ 250 := by omega
    iterate 8 (first | (apply And.intro; (· walk_at "cl")) | apply Exists.intro)
    refine ⟨r, (vs.length : Int), rfl, R3, c1, c2, fun st H4 s0 s1 R4 k4 => ?_⟩
    walk_at "st"
    intro p np
    refine q (.ref p) _ (x, y, hd, st) ⟨⟨x0, x1⟩, y0, y1⟩ ⟨d0, d1⟩ ⟨s0, ?_⟩ (Tp.of_ints (ks := [x, y, hd, st]) (SqT.of upd_same)) (R4.new np) ((k03.trans k4).trans (KeepB.new np))
    show st < Tb.length
    omega
theorem ok_law_ahead (T : Txt K mg) (D : DefAt K mg "_law_ahead" s_law_ahead ["place", "heading"]) : Cal P w K mg base CX0 "_law_ahead" 1 ["place", "heading"] (spLAhead K) := by
  refine D.cal sc_law_ahead (fun vs H Q E h => ?_) (fun f cdv A outer s H vs Q E hr h => ?_)
  · obtain ⟨b, x, y, hd, rfl, _⟩ := h
    rfl
  · obtain ⟨b, x, y, hd, rfl, hs, h0, h4, q⟩ := h
    refine ⟨_, (pss_one (ps_ret (pe_tup (pa_cons (pe_op op_add (pe_ix (k_ix_tup (K := K)) (pv 0) pe_int (fun _ _ => rfl)) (pe_ix (k_ix_list (K := K)) (pe_lst (pa_cons pe_int (pa_cons pe_int (pa_cons pe_int (pa_cons (pe_un un_neg pe_int) pa_nil))))) (pv 1) (fun _ _ => rfl))) (pa_cons (pe_op op_add (pe_ix (k_ix_tup (K := K)) (pv 0) pe_int (fun _ _ => rfl)) (pe_ix (k_ix_list (K := K)) (pe_lst (pa_cons (pe_un un_neg pe_int) (pa_cons pe_int (pa_cons pe_int (pa_cons pe_int pa_nil))))) (pv 1) (fun _ _ => rfl))) pa_nil))))), ?_⟩
    obtain ⟨ax, ay⟩ := dx_at h0 h4
    walk_at "st"
    intro p np
    have hs1 := TK.seqT (TK.new (o := .lst [.int 0, .int 1, .int 0, .int (-1)]) np) hs
    walk_at "st"
    intro p2 np2
    walk_at "st"
    intro p3 np3
    exact q p3 _ upd_same (Same.trans (Same.trans (Same.new np) (Same.new np2)) (Same.new np3))
end

theorem TK.dT {H : Hp} {p : Addr} {kvs : List (List Key × V)} {o : HO} (h : H p = some (.dT kvs)) : TK H (upd H p o) := KeepE.tk (E := [p]) (KeepE.put List.mem_cons_self) fun b hb => by
  rw [List.mem_singleton.mp hb]
  exact Soft.dT h

/-! ### the law's own floors -/
theorem sorted_keys {m : CM} {bs : List (Addr × List Int)} (nd : (m.map (·.1)).Nodup) (pm : (bs.map (·.2)).Perm (m.map fun e => [e.1.1, e.1.2])) (pw : bs.Pairwise fun x y => ltZ y.2 x.2 = false) :
    ∃ ps : List Pt, bs.map (·.2) = ps.map (fun p => [p.1, p.2]) ∧ ps.Pairwise ltP ∧ (∀ p, p ∈ ps ↔ p ∈ m.map (·.1)) ∧ ps.length = m.length := by
  have pm2 : (bs.map (·.2)).Perm ((m.map (·.1)).map fun p : Pt => [p.1, p.2]) := by
    rw [List.map_map]
    exact pm
  obtain ⟨ps, pp, ep⟩ := perm_lift (fun p : Pt => [p.1, p.2]) pm2 _ rfl
  have pwp : ps.Pairwise fun a b => ltZ [b.1, b.2] [a.1, a.2] = false := by
    have z : (bs.map (·.2)).Pairwise fun x y => ltZ y x = false := List.pairwise_map.mpr pw
    rw [← ep] at z
    exact List.pairwise_map.mp z
  have ndp : ps.Pairwise fun a b => a ≠ b := pp.nodup_iff.mpr nd
  refine ⟨ps, ep.symm, List.Pairwise.imp₂ (fun a b h1 h2 => ?_) pwp ndp, fun p => pp.mem_iff, by rw [pp.length_eq, List.length_map]⟩
  have h3 : ¬ (b.1 < a.1 ∨ (¬ a.1 < b.1 ∧ b.2 < a.2)) := fun z => by
    have e : ltZ [b.1, b.2] [a.1, a.2] = true := by
      show (decide (b.1 < a.1) || (!decide (a.1 < b.1) && (decide (b.2 < a.2) || (!decide (a.2 < b.2) && ltZ [] [])))) = true
      rcases z with z | ⟨z1, z2⟩
      · rw [decide_eq_true z]
        rfl
      · rw [decide_eq_false z1, decide_eq_true z2, Bool.or_eq_true]
        exact .inr rfl
    rw [e] at h1
    cases h1
  have h4 : ¬ (a.1 = b.1 ∧ a.2 = b.2) := fun z => h2 (Prod.ext z.1 z.2)
  show a.1 < b.1 ∨ (a.1 = b.1 ∧ a.2 < b.2)
  omega
def sqAt (m : CM) (p : Pt) : Sq := (p.1, p.2, col m p)
def fltF (m : CM) (ps : List Pt) : List Sq := (ps.filter fun p => decide (0 < col m p)).map (sqAt m)
theorem flt_floor {m : CM} {ps : List Pt} (asc : ps.Pairwise ltP) (mem : ∀ p, p ∈ ps ↔ p ∈ m.map (·.1)) (nn : ∀ p, 0 ≤ col m p) : FloorOf (col m) (fltF m ps) := by
  refine ⟨List.pairwise_map.mpr (asc.sublist (List.filter_sublist)), fun s => ?_⟩
  unfold fltF
  rw [List.mem_map]
  constructor
  · rintro ⟨p, hp, rfl⟩
    have h1 := of_decide_eq_true (List.mem_filter.mp hp).2
    refine ⟨rfl, ?_⟩
    show col m p ≠ 0
    omega
  · rintro ⟨h1, h2⟩
    refine ⟨s.pt, List.mem_filter.mpr ⟨(mem _).mpr ?_, decide_eq_true ?_⟩, ?_⟩
    · refine Classical.byContradiction fun z => ?_
      have e := look_none.mpr z
      unfold col at h1
      rw [e] at h1
      exact h2 h1
    · have := nn s.pt
      rw [h1] at h2
      omega
    · obtain ⟨x, y, k⟩ := s
      show (x, y, col m (x, y)) = (x, y, k)
      rw [show k = col m (x, y) from h1]
theorem flt_snoc (m : CM) (l : List Pt) (p : Pt) : fltF m (l ++ [p]) = fltF m l ++ (if 0 < col m p then [sqAt m p] else []) := by
  unfold fltF
  rw [List.filter_append, List.map_append]
  by_cases h : 0 < col m p
  · rw [if_pos h, show ([p].filter fun p => decide (0 < col m p)) = [p] from List.filter_cons_of_pos (decide_eq_true h)]
    rfl
  · rw [if_neg h, show ([p].filter fun p => decide (0 < col m p)) = [] from List.filter_cons_of_neg (fun z => h (of_decide_eq_true z))]
    rfl
theorem catA_of {K : PySem.W.Frag} {H : Hp} {a b : Addr} {xs ys : List V} {Q : VK} (ha : SqT K H a xs) (hb : SqT K H b ys) (h1 : xs ≠ []) (h2 : ys ≠ []) (hz : xs.length + ys.length ≤ sizeLine) (q : ∀ p, H p = none → Q (.ref p) (upd H p (.tup (xs ++ ys)))) : rCatA K (.ref a) (.ref b) H Q :=
  ⟨a, b, xs, ys, rfl, rfl, ha, hb, hz, fun z => absurd z h1, fun _ z => absurd z h2, fun _ _ => q⟩
theorem put_mem2 : ∀ {m : CM} {p : Pt} {c : Int} {e : Pt × Int}, e ∈ putM m p c → e ∈ m ∨ e = (p, c)
  | [], p, c, e, h => .inr (List.mem_singleton.mp h)
  | a :: r, p, c, e, h => by
    unfold putM at h
    by_cases q : a.1 = p
    · rw [if_pos q] at h
      rcases List.mem_cons.mp h with z | z
      · exact .inr (by rw [z, q])
      · exact .inl (List.mem_cons_of_mem _ z)
    · rw [if_neg q] at h
      rcases List.mem_cons.mp h with z | z
      · exact .inl (z ▸ List.mem_cons_self)
      · exact (put_mem2 z).imp (List.mem_cons_of_mem _) id
def spLFloor (K : PySem.W.Frag) : Sp := fun vs H Q _ => ∃ (c : Addr) (m : CM), vs = [.ref c] ∧ H c = some (.dT (cellK m)) ∧ (m.map (·.1)).Nodup ∧ (∀ p, 0 ≤ col m p) ∧ m.length ≤ 900 ∧ ∀ v H' F, FloorOf (col m) F → Tp K H' v (floorD F) → Same H H' → Q v H'
def spSomeFloor (K : PySem.W.Frag) : Sp := fun vs H Q _ => ∃ (r : Addr) (c : Nat) (mo : Int), vs = [.ref r, .int c, .int mo] ∧ Row K H r ∧ 2 ≤ c ∧ c ≤ 6 ∧ 0 ≤ mo ∧ mo ≤ 9 ∧ ∀ v H' F, FlOk c 3 F → F.length ≤ mo.toNat → Tp K H' v (floorD F) → Row K H' r → KeepB r H H' → Q v H'
theorem cell_keys (m : CM) : (cellK m).map (·.1) = (m.map fun e => [e.1.1, e.1.2]).map fun k : List Int => k.map Sum.inl := by
  unfold cellK
  rw [List.map_map, List.map_map]
  rfl
theorem look_some {m : CM} {p : Pt} (h : p ∈ m.map (·.1)) : look m p = some (col m p) := by
  unfold col
  cases e : look m p with
  | none => exact absurd h (look_none.mp e)
  | some x => rfl

section
variable {P : Program} {w : World} {K : PySem.W.Frag} {mg : Str → Option Value} {base : Heap}
theorem ok_law_floor (T : Txt K mg) (D : DefAt K mg "_law_floor" s_law_floor ["cells"]) : Cal P w K mg base CX0 "_law_floor" 1 ["cells"] (spLFloor K) := by
  refine D.cal sc_law_floor (fun vs H Q E h => ?_) (fun f cdv A outer s H vs Q E hr h => ?_)
  · obtain ⟨c, m, rfl, _⟩ := h
    rfl
  · obtain ⟨c, m, rfl, hc, nd, nn, hl, q⟩ := h
    refine ⟨_, (pss_one (ps_ret (pe_callTy (k_tuple_l (K := K)) (by rfl) T.m_tuple (by decide +kernel) (pa_cons (pe_lc (own := [("place", 1)]) (g := gName 1) rfl sc_law_floor.nd (k_pi_list (K := K) (pe_sKT rfl (by rfl) T.m_sorted (by decide +kernel) (pv 0))) (blkOk_by (by rfl)) (fun _ _ _ _ _ => (pg_name (i := 1) sc_law_floor.nd rfl (Or.inl rfl))) (fun _ _ _ _ _ => pts_one (pt_cmpR op_gt (pe_dget (hu_of hr) (pv 0) (pv 1) (fun _ _ => rfl)) pe_int (nomark _))) (fun _ _ _ _ _ => (pe_op (k_catA (K := K)) (pv 1) (pe_tup (pa_cons (pe_dget (hu_of hr) (pv 0) (pv 1) (fun _ _ => rfl)) pa_nil))))) pa_nil)))), ?_⟩
    refine ⟨_, rfl, c, cellK m, m.map (fun e => [e.1.1, e.1.2]), rfl, hc, cell_keys m, fun k hk => ?_, fun p bs np pm pw tb => ?_⟩
    · obtain ⟨e, _, rfl⟩ := List.mem_map.mp hk
      intro z
      cases z
    · obtain ⟨ps, ep, asc, mem, lp⟩ := sorted_keys nd pm pw
      have s1 : Same H (upd H p (.lst (bs.map fun b => .ref b.1))) := Same.new np
      have hp1 : (upd H p (.lst (bs.map fun b => .ref b.1))) p = some (.lst (bs.map fun b => .ref b.1)) := upd_same
      generalize hH1 : upd H p (.lst (bs.map fun b => .ref b.1)) = H1 at s1 hp1
      have lb : bs.length = ps.length := by
        have z := congrArg List.length ep
        rw [List.length_map, List.length_map] at z
        exact z
      walk_at "st"
      intro M nM
      refine lc_it (walk_list (K := K) (a := p) (xs := bs.map fun b => .ref b.1)) (fun j H2 => Ok (Same H1 H2 ∧ ∃ us, H2 M = some (.lst us) ∧ us.length ≤ j ∧ TpAll K H2 us ((fltF m (ps.take j)).map sqD))) ⟨Same.new nM, [], upd_same, Nat.le_refl _, .nil⟩ (fun j H2 _ ⟨s2, _⟩ => SqL.of (s2 _ _ hp1)) ?_ ?_
      · rintro j x H2 H3 hj ⟨s2, us, hM, lus, hus⟩ ⟨rfl, hx⟩
        rw [List.length_map] at hj
        have hjp : j < ps.length := by omega
        have hxb : x = .ref bs[j].1 := by
          rw [List.getElem?_map, List.getElem?_eq_getElem hj] at hx
          exact (Option.some.inj hx).symm
        have e2 : bs[j].2 = [ps[j].1, ps[j].2] := by
          have z : (bs.map (·.2))[j]? = (ps.map fun p : Pt => [p.1, p.2])[j]? := by rw [ep]
          rw [List.getElem?_map, List.getElem?_map, List.getElem?_eq_getElem hj, List.getElem?_eq_getElem hjp] at z
          exact Option.some.inj z
        have hb : H bs[j].1 = some (.tup [.int ps[j].1, .int ps[j].2]) := by
          rw [tb _ (List.getElem_mem hj), e2]
          rfl
        have tk := take_more (List.getElem?_eq_getElem hjp)
        have pin : ps[j] ∈ m.map (·.1) := (mem _).mp (List.getElem_mem hjp)
        have lk := look_some pin
        generalize bs[j].1 = b at *
        generalize ps[j] = pt at *
        subst hxb
        have s02 := Same.trans s1 s2
        have hb3 := s02 _ _ hb
        have hc3 := s02 _ _ hc
        have hg : DGet H3 c (.ref b) (some (.int (col m pt))) := .inr ⟨cellK m, ptK pt, b, .inl hc3, rfl, hb3, by rw [cell_val, lk]; rfl⟩
        walk_at "st"
        refine ite2 (fun e => ?_) (fun e => ?_)
        · have e := of_decide_eq_true e
          walk_at "st"
          intro t nt
          have s3 : Same H3 (upd H3 t (.tup [.int (col m pt)])) := Same.new nt
          refine catA_of (SqT.of (s3 _ _ hb3)) (SqT.of upd_same) (by intro z; cases z) (by intro z; cases z) (by show 3 ≤ sizeLine; decide) fun u nu => ?_
          have s4 : Same H3 (upd (upd H3 t (.tup [.int (col m pt)])) u (.tup ([.int pt.1, .int pt.2] ++ [.int (col m pt)]))) := Same.trans s3 (Same.new nu)
          have hM4 := s4 _ _ hM
          have hsz : us.length < sizeLine := small1000 (by omega)
          refine ⟨us, hM4, hsz, Same.fresh (Same.trans s2 s4) nM, us ++ [.ref u], upd_same, by rw [List.length_append]; exact Nat.succ_le_succ lus, ?_⟩
          rw [tk, flt_snoc, if_pos e, List.map_append]
          have t5 : TK (upd (upd H3 t (.tup [.int (col m pt)])) u (.tup ([.int pt.1, .int pt.2] ++ [.int (col m pt)]))) (upd (upd (upd H3 t (.tup [.int (col m pt)])) u (.tup ([.int pt.1, .int pt.2] ++ [.int (col m pt)]))) M (.lst (us ++ [.ref u]))) := TK.lst hM4
          exact TpAll.append (TpAll.mono ((Same.tk s4).trans t5) _ _ hus) (.cons (Tp.mono t5 _ _ (Tp.of_ints (ks := [pt.1, pt.2, col m pt]) (SqT.of upd_same))) .nil)
        · have e : ¬ 0 < col m pt := fun z => e (decide_eq_true z)
          refine ⟨s2, us, hM, Nat.le_succ_of_le lus, ?_⟩
          rw [tk, flt_snoc, if_neg e, List.append_nil]
          exact hus
      · rintro H2 ⟨s2, us, hM, lus, hus⟩
        rw [List.length_map, lb, List.take_length] at hus
        walk_at "st"
        intro l nl
        exact q _ _ (fltF m ps) (flt_floor asc mem nn) (.tup (SqT.of upd_same) (TpAll.mono (TK.new nl) _ _ hus)) (Same.trans (Same.trans s1 s2) (Same.new nl))
end

section
variable {P : Program} {w : World} {K : PySem.W.Frag} {mg : Str → Option Value} {base : Heap}
theorem ok_law_some_floor (T : Txt K mg) (D : DefAt K mg "_law_some_floor" s_law_some_floor ["row", "colours", "most"]) (C_law_taken : Cal P w K mg base CX0 "_law_taken" 1 ["row", "many"] (spTaken K)) (C_law_signed : Cal P w K mg base CX0 "_law_signed" 2 ["row", "most"] (spSigned K)) : Cal P w K mg base CX0 "_law_some_floor" 3 ["row", "colours", "most"] (spSomeFloor K) := by
  refine D.cal sc_law_some_floor (fun vs H Q E h => ?_) (fun f cdv A outer s H vs Q E hr h => ?_)
  · obtain ⟨r, c, mo, rfl, _⟩ := h
    rfl
  · obtain ⟨r, c, mo, rfl, R, c2, c3, mo0, mo9, q⟩ := h
    have om0 : 0 < mo + 1 := by omega
    have om1 : mo + 1 < 2 ^ 250 := by omega
    refine ⟨_, (pss_cons (ps_set (i := 3) sc_law_some_floor.nd rfl (Or.inr rfl) pe_dnewT)
      (pss_cons (ps_for PassesOwn.never rfl (pi_range1 (by rfl) T.m_range (pa_cons (pe_own C_law_taken hr (by first | decide | omega) (pa_cons (pv 0) (pa_cons (pe_op op_add (pv 2) pe_int) pa_nil))) pa_nil)) (pg_name (i := 4) sc_law_some_floor.nd rfl (Or.inl rfl))
      (pss_one (ps_dput (hu_of hr) (pv 3) (pe_tup (pa_cons (pe_own C_law_signed hr (by first | decide | omega) (pa_cons (pv 0) (pa_cons pe_int pa_nil))) (pa_cons (pe_own C_law_signed hr (by first | decide | omega) (pa_cons (pv 0) (pa_cons pe_int pa_nil))) pa_nil))) (pe_op op_add pe_int (pe_own C_law_taken hr (by first | decide | omega) (pa_cons (pv 0) (pa_cons (pe_op op_sub (pv 1) pe_int) pa_nil)))) (by rfl))))
      (pss_one (ps_ret (pe_callTy (k_tuple_l (K := K)) (by rfl) T.m_tuple (by decide +kernel) (pa_cons (pe_lc (own := [("place", 5)]) (g := gName 5) rfl sc_law_some_floor.nd (k_pi_list (K := K) (pe_sKT rfl (by rfl) T.m_sorted (by decide +kernel) (pv 3))) (blkOk_by (by rfl)) (fun _ _ _ _ _ => (pg_name (i := 5) sc_law_some_floor.nd rfl (Or.inl rfl))) (fun _ _ _ _ _ => pts_nil) (fun _ _ _ _ _ => (pe_op (k_catA (K := K)) (pv 5) (pe_tup (pa_cons (pe_dget (hu_of hr) (pv 3) (pv 5) (fun _ _ => rfl)) pa_nil))))) pa_nil)))))), ?_⟩
    walk_at "st"
    intro D nD
    have neD := R.ne nD
    have R1 := R.new (o := .dT []) nD
    walk_at "st"
    intro n H1 n0 n7 R2 k2
    walk_at "st"
    have hD1 : H1 D = some (.dT (cellK [])) := k2 _ _ neD upd_same
    have k01 : KeepB r H H1 := (KeepB.new nD).trans k2
    have cc1 : 0 < (c : Int) - 1 := by omega
    have cc2 : (c : Int) - 1 < 2 ^ 250 := by omega
    refine for_range (lo := 0) (n := n.toNat) (fun i σ H' => Ok (∃ (y4 y5 : Option V) (m : CM), σ = [some (.ref r), some (.int c), some (.int mo), some (.ref D), y4, y5] ∧ H' D = some (.dT (cellK m)) ∧ (m.map (·.1)).Nodup ∧ m.length ≤ i ∧
      (∀ e ∈ m, InB 3 e.1 ∧ 1 ≤ e.2 ∧ e.2 < c) ∧ Row K H' r ∧ KeepB r H H')) ?_ ?_ ?_
    · exact ⟨_, _, [], rfl, hD1, List.nodup_nil, Nat.le_refl _, fun e he => (nomatch he), R2, k01⟩
    · rintro i σ H' hi ⟨y4, y5, m, rfl, hD, nd, lm, ok, R', kp⟩
      walk_at "st"
      intro v Hv v0 v1 Rv kv
      walk_at "st"
      intro x Hx x0 x1 Rx kx
      walk_at "st"
      intro y Hy y0 y1 Ry ky
      walk_at "st"
      intro p np
      have k3 : KeepB r H' Hy := (kv.trans kx).trans ky
      have hDy : Hy D = some (.dT (cellK m)) := k3 _ _ neD hD
      have hD4 : (upd Hy p (.tup [.int x, .int y])) D = some (.dT (cellK m)) := by
        rw [upd_ne (ne_of_none hDy np)]
        exact hDy
      have hsz : (cellK m).length < sizeLine := by
        rw [cell_len]
        exact small1000 (by omega)
      have hw : DPut (upd Hy p (.tup [.int x, .int y])) D (.ref p) (.int (1 + v)) (upd (upd Hy p (.tup [.int x, .int y])) D (.dT (putK (cellK m) (ptK (x, y)) (.int (1 + v))))) := DPut.t hD4 upd_same hsz
      walk_at "st"
      have R4 := Ry.new (o := .tup [.int x, .int y]) np
      refine ⟨_, _, putM m (x, y) (1 + v), rfl, ?_, nd_put _ _ nd, ?_, fun e he => ?_, ?_, ?_⟩
      · rw [upd_same, cell_put _ _ nd]
      · have := len_put m (x, y) (1 + v)
        omega
      · rcases put_mem2 he with z | z
        · exact ok e z
        · rw [z]
          exact ⟨⟨⟨x0, x1⟩, y0, y1⟩, by omega, by show 1 + v < c; omega⟩
      · exact R4.keep (TK.dT hD4) (upd_ne neD.symm)
      · exact ((kp.trans k3).trans (KeepB.new np)).fresh nD
    · rintro σ H' ⟨y4, y5, m, rfl, hD, nd, lm, ok, R', kp⟩
      have lm6 : (m.length : Int) ≤ mo := by omega
      have lm9 : m.length ≤ 9 := by omega
      refine ⟨_, rfl, D, cellK m, m.map (fun e => [e.1.1, e.1.2]), rfl, hD, cell_keys m, fun k hk => ?_, fun p bs np pm pw tb => ?_⟩
      · obtain ⟨e, _, rfl⟩ := List.mem_map.mp hk
        intro z
        cases z
      · obtain ⟨ps, ep, asc, mem, lp⟩ := sorted_keys nd pm pw
        have s1 : Same H' (upd H' p (.lst (bs.map fun b => .ref b.1))) := Same.new np
        have hp1 : (upd H' p (.lst (bs.map fun b => .ref b.1))) p = some (.lst (bs.map fun b => .ref b.1)) := upd_same
        generalize hH1 : upd H' p (.lst (bs.map fun b => .ref b.1)) = H1 at s1 hp1
        have lb : bs.length = ps.length := by
          have z := congrArg List.length ep
          rw [List.length_map, List.length_map] at z
          exact z
        walk_at "st"
        intro M nM
        refine lc_it (walk_list (K := K) (a := p) (xs := bs.map fun b => .ref b.1)) (fun j H2 => Ok (Same H1 H2 ∧ ∃ us, H2 M = some (.lst us) ∧ us.length = j ∧ TpAll K H2 us (((ps.take j).map (sqAt m)).map sqD))) ⟨Same.new nM, [], upd_same, rfl, .nil⟩ (fun j H2 _ ⟨s2, _⟩ => SqL.of (s2 _ _ hp1)) ?_ ?_
        · rintro j x H2 H3 hj ⟨s2, us, hM, lus, hus⟩ ⟨rfl, hx⟩
          rw [List.length_map] at hj
          have hjp : j < ps.length := by omega
          have hxb : x = .ref bs[j].1 := by
            rw [List.getElem?_map, List.getElem?_eq_getElem hj] at hx
            exact (Option.some.inj hx).symm
          have e2 : bs[j].2 = [ps[j].1, ps[j].2] := by
            have z : (bs.map (·.2))[j]? = (ps.map fun p : Pt => [p.1, p.2])[j]? := by rw [ep]
            rw [List.getElem?_map, List.getElem?_map, List.getElem?_eq_getElem hj, List.getElem?_eq_getElem hjp] at z
            exact Option.some.inj z
          have hb : H' bs[j].1 = some (.tup [.int ps[j].1, .int ps[j].2]) := by
            rw [tb _ (List.getElem_mem hj), e2]
            rfl
          have tk := take_more (List.getElem?_eq_getElem hjp)
          have pin : ps[j] ∈ m.map (·.1) := (mem _).mp (List.getElem_mem hjp)
          have lk := look_some pin
          generalize bs[j].1 = b at *
          generalize ps[j] = pt at *
          subst hxb
          have s02 := Same.trans s1 s2
          have hb3 := s02 _ _ hb
          have hc3 := s02 _ _ hD
          have hg : DGet H3 D (.ref b) (some (.int (col m pt))) := .inr ⟨cellK m, ptK pt, b, .inl hc3, rfl, hb3, by rw [cell_val, lk]; rfl⟩
          walk_at "st"
          intro t nt
          have s3 : Same H3 (upd H3 t (.tup [.int (col m pt)])) := Same.new nt
          refine catA_of (SqT.of (s3 _ _ hb3)) (SqT.of upd_same) (by intro z; cases z) (by intro z; cases z) (by show 3 ≤ sizeLine; decide) fun u nu => ?_
          have s4 : Same H3 (upd (upd H3 t (.tup [.int (col m pt)])) u (.tup ([.int pt.1, .int pt.2] ++ [.int (col m pt)]))) := Same.trans s3 (Same.new nu)
          have hM4 := s4 _ _ hM
          have hsz : us.length < sizeLine := small1000 (by omega)
          refine ⟨us, hM4, hsz, Same.fresh (Same.trans s2 s4) nM, us ++ [.ref u], upd_same, by rw [List.length_append, lus]; rfl, ?_⟩
          rw [tk, List.map_append, List.map_append]
          have t5 : TK (upd (upd H3 t (.tup [.int (col m pt)])) u (.tup ([.int pt.1, .int pt.2] ++ [.int (col m pt)]))) (upd (upd (upd H3 t (.tup [.int (col m pt)])) u (.tup ([.int pt.1, .int pt.2] ++ [.int (col m pt)]))) M (.lst (us ++ [.ref u]))) := TK.lst hM4
          exact TpAll.append (TpAll.mono ((Same.tk s4).trans t5) _ _ hus) (.cons (Tp.mono t5 _ _ (Tp.of_ints (ks := [pt.1, pt.2, col m pt]) (SqT.of upd_same))) .nil)
        · rintro H2 ⟨s2, us, hM, lus, hus⟩
          rw [List.length_map, lb, List.take_length] at hus
          walk_at "st"
          intro l nl
          have sZ : Same H' (upd H2 l (.tup us)) := Same.trans (Same.trans s1 s2) (Same.new nl)
          refine q _ _ (ps.map (sqAt m)) ⟨List.pairwise_map.mpr asc, fun s hs => ?_⟩ (by rw [List.length_map]; omega) (.tup (SqT.of upd_same) (TpAll.mono (TK.new nl) _ _ hus)) (R'.same sZ) (kp.trans (Same.keepB sZ))
          obtain ⟨pt, hpt, rfl⟩ := List.mem_map.mp hs
          exact ok (pt, col m pt) (look_mem (look_some ((mem _).mp hpt)))
end

/-! ### a table with a street, a floor, a walker at the beginning -/
def wkO : Wk := (0, 0, 0, 0)
def ksD (k : Kn) : PyData := .tuple [.int k.2.1, .int k.2.2.1, .tuple [.int k.2.2.2.1, .int k.2.2.2.2]]
def lstD (k : Kn) (F : List Sq) : PyData := .tuple [tabD k.1, floorD F, wkD wkO, ksD k]
def spLStand (K : PySem.W.Frag) : Sp := fun vs H Q _ => ∃ r : Addr, vs = [.ref r] ∧ Row K H r ∧
  ∀ (v : V) (H' : Hp) (k : Kn) (c n : Nat) (F : List Sq), k ∈ knL → 1 ≤ n → n ≤ 2 → 2 ≤ c → c ≤ 3 → TabOk c n k.1 → FlOk c 3 F → F.length ≤ 4 → Tp K H' v (lstD k F) → Row K H' r → KeepB r H H' → Q v H'
theorem kn_get {K : PySem.W.Frag} {H : Hp} {us : List V} (h : TpAll K H us (knL.map knD)) {j : Nat} {v : V} (e : us[j]? = some v) : ∃ k, k ∈ knL ∧ Tp K H v (knD k) := by
  have l : us.length = knL.length := by rw [TpAll.length h, List.length_map]
  have jl : j < knL.length := by
    have := (List.getElem?_eq_some_iff.mp e).1
    omega
  obtain ⟨u, eu, hu⟩ := h.get (i := j) (d := knD knL[j]) (by rw [List.getElem?_map, List.getElem?_eq_getElem jl]; rfl)
  rw [e] at eu
  cases eu
  exact ⟨_, List.getElem_mem jl, hu⟩
theorem knI {K : PySem.W.Frag} {H : Hp} {v : V} {k : Kn} (h : Tp K H v (knD k)) : ∃ a t m, v = .ref a ∧ SqT K H a [t, .int k.2.1, .int k.2.2.1, m] ∧ Tp K H t (tabD k.1) ∧ Tp K H m (.tuple [.int k.2.2.2.1, .int k.2.2.2.2]) := by
  obtain ⟨a, xs, e0, ha, h⟩ := (show Tp K H v (.tuple [tabD k.1, .int k.2.1, .int k.2.2.1, .tuple [.int k.2.2.2.1, .int k.2.2.2.2]]) from h).tupI
  obtain ⟨t, x1, e1, h1, g1⟩ := h.consI
  obtain ⟨y, x2, e2, h2, g2⟩ := g1.consI
  obtain ⟨z, x3, e3, h3, g3⟩ := g2.consI
  obtain ⟨m, x4, e4, h4, g4⟩ := g3.consI
  have e5 := g4.nilI
  have e6 := h2.intI
  have e7 := h3.intI
  subst e0 e7 e6 e5 e4 e3 e2 e1
  exact ⟨a, t, m, rfl, ha, h1, h4⟩
section
variable {P : Program} {w : World} {K : PySem.W.Frag} {mg : Str → Option Value} {base : Heap}
local macro_rules | `(tactic| walk_at "cl") => `(tactic| first | (refine le_only ?_; omega) | (refine lt_only ?_; omega) | assumption)
theorem ok_law_stand (T : Txt K mg) (D : DefAt K mg "_law_stand" s_law_stand ["row"]) (C_law_known : Cal P w K mg base CX0 "_law_known" 1 [] (spKnown K)) (C_law_pick : Cal P w K mg base CX0 "_law_pick" 2 ["row", "things"] (spPick K)) (C_law_taken : Cal P w K mg base CX0 "_law_taken" 1 ["row", "many"] (spTaken K)) (C_law_some_floor : Cal P w K mg base CX0 "_law_some_floor" 3 ["row", "colours", "most"] (spSomeFloor K)) : Cal P w K mg base CX0 "_law_stand" 4 ["row"] (spLStand K) := by
  refine D.cal sc_law_stand (fun vs H Q E h => ?_) (fun f cdv A outer s H vs Q E hr h => ?_)
  · obtain ⟨r, rfl, _⟩ := h
    rfl
  · obtain ⟨r, rfl, R, q⟩ := h
    refine ⟨_, (pss_cons (ps_asg (pe_own C_law_pick hr (by first | decide | omega) (pa_cons (pv 0) (pa_cons (pe_own0 C_law_known hr (by first | decide | omega)) pa_nil))) (pg_tup (by rfl) (pgs_cons (pg_name (i := 1) sc_law_stand.nd rfl (Or.inl rfl)) (pgs_cons (pg_name (i := 2) sc_law_stand.nd rfl (Or.inl rfl)) (pgs_cons (pg_name (i := 3) sc_law_stand.nd rfl (Or.inl rfl)) (pgs_cons (pg_name (i := 4) sc_law_stand.nd rfl (Or.inl rfl)) pgs_nil))))))
      (pss_cons (ps_par (i := 5) (j := 6) (by rfl) sc_law_stand.nd rfl rfl (by decide) rfl rfl (pa_cons (pe_tup pa_nil) (pa_cons (pe_own C_law_taken hr (by first | decide | omega) (pa_cons (pv 0) (pa_cons pe_int pa_nil))) pa_nil)) (by rfl))
      (pss_cons (ps_if (pt_cmpR op_eq (pv 6) pe_int (nomark _)) (pss_one (ps_set (i := 5) sc_law_stand.nd rfl (Or.inl rfl) (pe_own C_law_some_floor hr (by first | decide | omega) (pa_cons (pv 0) (pa_cons (pe_callB (k_len_t (K := K)) (by rfl) T.m_len (by decide +kernel) (pa_cons (pe_ix (k_ix_tup (K := K)) (pv 1) pe_int (fun _ _ => rfl)) pa_nil)) (pa_cons pe_int pa_nil)))))) pss_nil)
      (pss_one (ps_ret (pe_tup (pa_cons (pv 1) (pa_cons (pv 5) (pa_cons (pe_tup (pa_cons pe_int (pa_cons pe_int (pa_cons pe_int (pa_cons pe_int pa_nil))))) (pa_cons (pe_tup (pa_cons (pv 2) (pa_cons (pv 3) (pa_cons (pv 4) pa_nil)))) pa_nil)))))))))), ?_⟩
    walk_at "st"
    intro L us H1 nL hL hus s1
    have R1 := R.same s1
    have nLr : L ≠ r := R.ne nL
    have lus : us.length = 5 := by
      rw [TpAll.length hus, List.length_map]
      rfl
    walk_at "st"
    intro v H2 j hj R2 k2
    obtain ⟨k, hk, hv⟩ := kn_get hus hj
    obtain ⟨c, n, n1, n2, c2, c3, tab⟩ := kn_ok k hk
    have hv2 := Tp.mono (k2.row R1) _ _ hv
    obtain ⟨a, tv, mv, rfl, ha, ht, hm⟩ := knI hv2
    walk_at "st"
    intro p3 np3
    have s3 : Same H2 (upd H2 p3 (.tup [])) := Same.new np3
    have hp3 : Tp K (upd H2 p3 (.tup [])) (.ref p3) (floorD []) := .tup (SqT.of upd_same) .nil
    have R3 := R2.same s3
    have ht3 := Tp.mono (Same.tk s3) _ _ ht
    have hm3 := Tp.mono (Same.tk s3) _ _ hm
    have k03 : KeepB r H (upd H2 p3 (.tup [])) := ((Same.keepB s1).trans k2).trans (Same.keepB s3)
    generalize hH3 : upd H2 p3 (.tup []) = H3 at *
    walk_at "st"
    intro far H4 f0 f3 R4 k4
    have ht4 := Tp.mono (k4.row R3) _ _ ht3
    have hm4 := Tp.mono (k4.row R3) _ _ hm3
    have hp4 := Tp.mono (k4.row R3) _ _ hp3
    have k04 := k03.trans k4
    have fin : ∀ (fv : V) (F : List Sq) (H5 : Hp), FlOk c 3 F → F.length ≤ 4 → Tp K H5 fv (floorD F) → Tp K H5 tv (tabD k.1) → Tp K H5 mv (.tuple [.int k.2.2.2.1, .int k.2.2.2.2]) → Row K H5 r → KeepB r H H5 → ∀ p6, H5 p6 = none → ∀ p7, (upd H5 p6 (.tup [.int 0, .int 0, .int 0, .int 0])) p7 = none → ∀ p8, (upd (upd H5 p6 (.tup [.int 0, .int 0, .int 0, .int 0])) p7 (.tup [.int k.2.1, .int k.2.2.1, mv])) p8 = none → Q (.ref p8) (upd (upd (upd H5 p6 (.tup [.int 0, .int 0, .int 0, .int 0])) p7 (.tup [.int k.2.1, .int k.2.2.1, mv])) p8 (.tup [tv, fv, .ref p6, .ref p7])) := fun fv F H5 hF lF hf ht hm R5 k5 p6 np6 p7 np7 p8 np8 => by
      have s6 : Same H5 (upd H5 p6 (.tup [.int 0, .int 0, .int 0, .int 0])) := Same.new np6
      have h6 : Tp K (upd H5 p6 (.tup [.int 0, .int 0, .int 0, .int 0])) (.ref p6) (wkD wkO) := Tp.of_ints (ks := [0, 0, 0, 0]) (SqT.of upd_same)
      generalize hH6 : upd H5 p6 (.tup [.int 0, .int 0, .int 0, .int 0]) = H6 at *
      have s7 : Same H6 (upd H6 p7 (.tup [.int k.2.1, .int k.2.2.1, mv])) := Same.new np7
      have h7 : Tp K (upd H6 p7 (.tup [.int k.2.1, .int k.2.2.1, mv])) (.ref p7) (ksD k) := .tup (SqT.of upd_same) (.cons (.int _) (.cons (.int _) (.cons (Tp.mono (Same.tk (Same.trans s6 s7)) _ _ hm) .nil)))
      generalize hH7 : upd H6 p7 (.tup [.int k.2.1, .int k.2.2.1, mv]) = H7 at *
      have s8 : Same H7 (upd H7 p8 (.tup [tv, fv, .ref p6, .ref p7])) := Same.new np8
      have s58 := Same.trans s6 (Same.trans s7 s8)
      exact q _ _ k c n F hk n1 n2 c2 c3 tab hF lF (.tup (SqT.of upd_same) (.cons (Tp.mono (Same.tk s58) _ _ ht) (.cons (Tp.mono (Same.tk s58) _ _ hf) (.cons (Tp.mono (Same.tk (Same.trans s7 s8)) _ _ h6) (.cons (Tp.mono (Same.tk s8) _ _ h7) .nil))))) (R5.same s58) (k5.trans (Same.keepB s58))
    obtain ⟨ta, tvs, rfl, hta, htv⟩ := id ht4.tupI
    have l0 : 0 < k.1.length := by rw [tab.1]; exact n1
    obtain ⟨rv, e3, h5⟩ := htv.get (i := 0) (d := rowD k.1[0]) (by rw [List.getElem?_map, List.getElem?_eq_getElem l0]; rfl)
    obtain ⟨tb, ws, rfl, htb, htw⟩ := h5.tupI
    have hlen2 : ws.length = c := by
      rw [TpAll.length htw, List.length_map]
      exact (tab.2 _ (List.getElem_mem l0)).1
    have hat : atI tvs (0 : Int) = some (.ref tb) := atI_nat (j := 0) e3
    walk_at "st"
    refine ite2 (fun e => ?_) (fun e => ?_)
    · walk_at "st"
      rw [hlen2]
      intro fv H5 F hF lF hf R5 k5
      have ht5 := Tp.mono (k5.row R4) _ _ ht4
      have hm5 := Tp.mono (k5.row R4) _ _ hm4
      have lF4 : F.length ≤ 4 := by
        have := lF
        omega
      clear lF
      walk_at "st"
      intro p6 np6
      walk_at "st"
      intro p7 np7
      walk_at "st"
      exact fin fv F H5 hF lF4 hf ht5 hm5 R5 (k04.trans k5) p6 np6 p7 np7
    · walk_at "st"
      intro p6 np6
      walk_at "st"
      intro p7 np7
      walk_at "st"
      exact fin (.ref p3) [] H4 ⟨.nil, fun s hs => absurd hs List.not_mem_nil⟩ (by decide) hp4 ht4 hm4 R4 k04 p6 np6 p7 np7
end

theorem put_col (m : CM) (p : Pt) (c : Int) : col (putM m p c) = dab (col m) p c := by
  funext q
  unfold col dab
  rw [look_put]
  split <;> rfl

/-! ### the law's own walk -/
def spLStep (K : PySem.W.Frag) : Sp := fun vs H Q _ => ∃ (tv wv : V) (D : Addr) (T : List (List Ent)) (m : CM) (w : Wk) (c n : Nat) (B : Int), vs = [tv, .ref D, wv] ∧ Tp K H tv (tabD T) ∧ Tp K H wv (wkD w) ∧ H D = some (.dT (cellK m)) ∧ (m.map (·.1)).Nodup ∧ m.length ≤ 4000 ∧ TabOk c n T ∧ Fit c n B (col m, w) ∧
  (stepW T (col m, w) = none → ∀ H', Same H H' → Q .non H') ∧ (∀ z, stepW T (col m, w) = some z → ∀ v H' m', col m' = z.1 → (m'.map (·.1)).Nodup → m'.length ≤ m.length + 1 → H' D = some (.dT (cellK m')) → Tp K H' v (wkD z.2) → KeepE [D] H H' → Q v H')
def spLWalk (K : PySem.W.Frag) : Sp := fun vs H Q _ => ∃ (tv fv wv : V) (many : Int) (c n : Nat) (B : Int) (T : List (List Ent)) (F : List Sq) (w : Wk), vs = [tv, fv, wv, .int many] ∧ Tp K H tv (tabD T) ∧ Tp K H fv (floorD F) ∧ Tp K H wv (wkD w) ∧ TabOk c n T ∧ (F.Pairwise fun a b => ltP a.pt b.pt) ∧ Fit c n B (colF F, w) ∧ F.length ≤ 400 ∧ 0 ≤ many ∧ many ≤ 400 ∧
  ∀ v H' i F' z, Ends T (colF F, w) many.toNat i z → FloorOf z.1 F' → Tp K H' v (walkD F' z.2 i) → Same H H' → Q v H'
section
variable {P : Program} {w : World} {K : PySem.W.Frag} {mg : Str → Option Value} {base : Heap}
theorem ok_law_step (T : Txt K mg) (D : DefAt K mg "_law_step" s_law_step ["table", "cells", "walker"]) (C_law_ahead : Cal P w K mg base CX0 "_law_ahead" 1 ["place", "heading"] (spLAhead K)) : Cal P w K mg base CX0 "_law_step" 2 ["table", "cells", "walker"] (spLStep K) := by
  refine D.cal sc_law_step (fun vs H Q E h => ?_) (fun f cdv A outer s H vs Q E hr h => ?_)
  · obtain ⟨tv, wv, D, T, m, wk, c, n, B, rfl, _⟩ := h
    rfl
  · obtain ⟨tv, wv, D, Tb, m, wk, c, n, B, rfl, ht, hw, hD, nd, lm, ok, fit, q0, q1⟩ := h
    refine ⟨_, (pss_cons (ps_set (i := 3) sc_law_step.nd rfl (Or.inl rfl) (pe_slice (k_sl_tup (K := K)) (pv 2) po_none (po_some pe_int)))
      (pss_cons (ps_set (i := 4) sc_law_step.nd rfl (Or.inl rfl) (pe_ix (k_ix_tup (K := K)) (pe_ix (k_ix_tup (K := K)) (pv 0) (pe_ix (k_ix_tup (K := K)) (pv 2) pe_int (fun _ _ => rfl)) (fun _ _ => rfl)) (pe_dget2 (hu_of hr) (pv 1) (pv 3) pe_int (by exact ⟨rfl, rfl, rfl, rfl⟩)) (fun _ _ => rfl)))
      (pss_cons (ps_if (pt_cmpR op_isN (pv 4) pe_non (nomark _)) (pss_one (ps_ret pe_non)) pss_nil)
      (pss_cons (ps_dput (hu_of hr) (pv 1) (pv 3) (pe_ix (k_ix_tup (K := K)) (pv 4) pe_int (fun _ _ => rfl)) (by rfl))
      (pss_cons (ps_set (i := 5) sc_law_step.nd rfl (Or.inl rfl) (pe_op op_mod (pe_callTy call_int_i (by rfl) T.m_int (by decide +kernel) (pa_cons (pe_op op_add (pe_ix (k_ix_tup (K := K)) (pv 2) pe_int (fun _ _ => rfl)) (pe_ix (k_ix_tup (K := K)) (pv 4) pe_int (fun _ _ => rfl))) pa_nil)) pe_int))
      (pss_one (ps_ret (pe_op (k_catA (K := K)) (pe_own C_law_ahead hr (by first | decide | omega) (pa_cons (pv 3) (pa_cons (pv 5) pa_nil))) (pe_tup (pa_cons (pv 5) (pa_cons (pe_ix (k_ix_tup (K := K)) (pv 4) pe_int (fun _ _ => rfl)) pa_nil))))))))))), ?_⟩
    obtain ⟨wa, rfl, hsw⟩ := hw.int4
    have cg := col_get m (wPt wk)
    have cb := fit.cols (wPt wk)
    have stb := fit.st
    have dD := isD_dT hD
    walk_at "st"
    intro p np
    have s1 : Same H (upd H p (.tup [.int wk.1, .int wk.2.1])) := Same.new np
    have hp1 : (upd H p (.tup [.int wk.1, .int wk.2.1])) p = some (.tup [.int wk.1, .int wk.2.1]) := upd_same
    have hg : DGet (upd H p (.tup [.int wk.1, .int wk.2.1])) D (.ref p) (valV (cellK m) (ptK (wPt wk))) := DGet.t (s1 _ _ hD) upd_same
    generalize hH1 : upd H p (.tup [.int wk.1, .int wk.2.1]) = H1 at s1 hp1 hg
    rw [show (upd H p (.tup (cutV [.int wk.1, .int wk.2.1, .int wk.2.2.1, .int wk.2.2.2] none (some 2)))) = H1 from hH1]
    have hD1 := s1 _ _ hD
    have hsw1 := TK.seqT (Same.tk s1) hsw
    have dD1 := isD_dT hD1
    obtain ⟨ta, tvs, rb, rws, ev, rfl, h1, h2, h3, h4, h5⟩ := tab_get ok stb cb (Tp.mono (Same.tk s1) _ _ ht)
    rw [cell_val] at hg
    walk_at "st"
    cases he : entAt Tb wk.2.2.2 (col m (wPt wk)) with
    | none =>
      have h5 : Tp K H1 ev (entD none) := he ▸ h5
      obtain rfl := h5.nonI
      walk_at "st"
      exact q0 (step_none he) _ s1
    | some e =>
      have h5 : Tp K H1 ev (entD (some e)) := he ▸ h5
      obtain ⟨u, rfl, hse⟩ := h5.int3
      have hsz : (cellK m).length < sizeLine := by
        rw [cell_len]
        exact Nat.lt_of_le_of_lt (show m.length ≤ 4000 by omega) (by decide)
      have hw2 : DPut H1 D (.ref p) (.int e.1) (upd H1 D (.dT (putK (cellK m) (ptK (wPt wk)) (.int e.1)))) := DPut.t hD1 hp1 hsz
      have t2 : TK H1 (upd H1 D (.dT (putK (cellK m) (ptK (wPt wk)) (.int e.1)))) := TK.dT hD1
      have hsw2 := t2.seqT hsw1
      have hse2 := t2.seqT hse
      have npD : p ≠ D := ne_of hp1 hD1 (by intro z; cases z)
      have hp2 : SqT K (upd H1 D (.dT (putK (cellK m) (ptK (wPt wk)) (.int e.1)))) p [.int wk.1, .int wk.2.1] := SqT.of (by rw [upd_ne npD]; exact hp1)
      have hD2 : (upd H1 D (.dT (putK (cellK m) (ptK (wPt wk)) (.int e.1)))) D = some (.dT (cellK (putM m (wPt wk) e.1))) := by rw [upd_same, cell_put _ _ nd]
      have k2 : KeepE [D] H (upd H1 D (.dT (putK (cellK m) (ptK (wPt wk)) (.int e.1)))) := (Same.keepE s1).trans (KeepE.put List.mem_cons_self)
      have g0 : 0 ≤ (wk.2.2.1 + e.2.1) % 4 := Int.emod_nonneg _ (by decide)
      have g1 : (wk.2.2.1 + e.2.1) % 4 < 4 := Int.emod_lt_of_pos _ (by decide)
      walk_at "st"
      intro pa H3 hpa s3
      have hD3 := s3 _ _ hD2
      have hse3 := TK.seqT (Same.tk s3) hse2
      walk_at "st"
      intro t nt
      have s4 : Same H3 (upd H3 t (.tup [.int ((wk.2.2.1 + e.2.1) % 4), .int e.2.2])) := Same.new nt
      refine catA_of (SqT.of (s4 _ _ hpa)) (SqT.of upd_same) (by intro z; cases z) (by intro z; cases z) (by show 4 ≤ sizeLine; decide) fun u2 nu2 => ?_
      have s5 := Same.trans s4 (Same.new (o := .tup ([.int (wk.1 + dxI ((wk.2.2.1 + e.2.1) % 4)), .int (wk.2.1 + dyI ((wk.2.2.1 + e.2.1) % 4))] ++ [.int ((wk.2.2.1 + e.2.1) % 4), .int e.2.2])) nu2)
      exact q1 _ (step_some he) (.ref u2) _ (putM m (wPt wk) e.1) (put_col _ _ _) (nd_put _ _ nd) (len_put _ _ _) (s5 _ _ hD3) (Tp.of_ints (ks := [_, _, _, _]) (SqT.of upd_same)) (k2.trans (Same.keepE (Same.trans s3 s5)))
end

theorem cellsOf_app (F G : List Sq) : cellsOf (F ++ G) = cellsOf F ++ cellsOf G := List.map_append
theorem putAll_cells : ∀ {ps : List PKV} {G F : List Sq}, ps.map (fun x => (x.2.2.1, x.2.2.2)) = F.map (fun s => (ptK s.pt, V.int s.2.2)) → ((cellsOf (G ++ F)).map (·.1)).Nodup → putAllK (cellK (cellsOf G)) ps = cellK (cellsOf (G ++ F))
  | [], G, [], _, _ => by rw [List.append_nil]; rfl
  | [], _, _ :: _, e, _ => nomatch e
  | _ :: _, _, [], e, _ => nomatch e
  | x :: ps, G, s :: F, e, nd => by
    obtain ⟨e1, e2⟩ := List.cons.inj e
    obtain ⟨e3, e4⟩ := Prod.mk.inj e1
    have eq1 : G ++ s :: F = (G ++ [s]) ++ F := by rw [List.append_assoc]; rfl
    have nd1 : ((cellsOf G).map (·.1)).Nodup ∧ s.pt ∉ (cellsOf G).map (·.1) := by
      rw [cellsOf_app, List.map_append, List.nodup_append] at nd
      exact ⟨nd.1, fun z => nd.2.2 _ z s.pt List.mem_cons_self rfl⟩
    show putAllK (putK (cellK (cellsOf G)) x.2.2.1 x.2.2.2) ps = _
    rw [show x.2.2.1 = ptK s.pt from e3, show x.2.2.2 = V.int s.2.2 from e4, cellK_snoc nd1.1 nd1.2, eq1]
    rw [eq1] at nd
    have q := putAll_cells (ps := ps) (G := G ++ [s]) (F := F) e2 nd
    rw [cellsOf_app G [s]] at q
    exact q
theorem FloorOf.nn {c n : Nat} {B : Int} {z : WSt} (h : Fit c n B z) : ∀ p, 0 ≤ z.1 p := fun p => (h.cols p).1

section
variable {P : Program} {w : World} {K : PySem.W.Frag} {mg : Str → Option Value} {base : Heap}
theorem ok_law_walk (T : Txt K mg) (D : DefAt K mg "_law_walk" s_law_walk ["table", "floor", "walker", "many"]) (C_law_step : Cal P w K mg base CX0 "_law_step" 2 ["table", "cells", "walker"] (spLStep K)) (C_law_floor : Cal P w K mg base CX0 "_law_floor" 1 ["cells"] (spLFloor K)) : Cal P w K mg base CX0 "_law_walk" 3 ["table", "floor", "walker", "many"] (spLWalk K) := by
  refine D.cal sc_law_walk (fun vs H Q E h => ?_) (fun f cdv A outer s H vs Q E hr h => ?_)
  · obtain ⟨tv, fv, wv, many, c, n, B, T, F, wk, rfl, _⟩ := h
    rfl
  · obtain ⟨tv, fv, wv, many, c, n, B, Tb, F, wk, rfl, ht, hf, hw, ok, asc, fit, hl, h0, h400, q⟩ := h
    refine ⟨_, (pss_cons (ps_set (i := 4) sc_law_walk.nd rfl (Or.inl rfl) (pe_callTy (k_dictP (K := K) rfl (hu2_of hr)) (by rfl) T.m_dict (by decide +kernel) (pa_cons (pe_lc (own := [("square", 7)]) (g := gName 7) rfl sc_law_walk.nd (k_pi_tup (K := K) (pv 1)) (blkOk_by (by rfl)) (fun _ _ _ _ _ => (pg_name (i := 7) sc_law_walk.nd rfl (Or.inl rfl))) (fun _ _ _ _ _ => pts_nil) (fun _ _ _ _ _ => (pe_tup (pa_cons (pe_slice (k_sl_tup (K := K)) (pv 7) po_none (po_some pe_int)) (pa_cons (pe_ix (k_ix_tup (K := K)) (pv 7) pe_int (fun _ _ => rfl)) pa_nil))))) pa_nil)))
      (pss_cons (ps_for PassesOwn.never rfl (pi_range1 (by rfl) T.m_range (pa_cons (pv 3) pa_nil)) (pg_name (i := 5) sc_law_walk.nd rfl (Or.inl rfl))
      (pss_cons (ps_set (i := 6) sc_law_walk.nd rfl (Or.inl rfl) (pe_own C_law_step hr (by first | decide | omega) (pa_cons (pv 0) (pa_cons (pv 4) (pa_cons (pv 2) pa_nil)))))
      (pss_cons (ps_if (pt_cmpR op_isN (pv 6) pe_non (nomark _)) (pss_one (ps_ret (pe_tup (pa_cons (pe_own C_law_floor hr (by first | decide | omega) (pa_cons (pv 4) pa_nil)) (pa_cons (pv 2) (pa_cons (pv 5) pa_nil)))))) pss_nil)
      (pss_one (ps_set (i := 2) sc_law_walk.nd rfl (Or.inl rfl) (pv 6))))))
      (pss_one (ps_ret (pe_tup (pa_cons (pe_own C_law_floor hr (by first | decide | omega) (pa_cons (pv 4) pa_nil)) (pa_cons (pv 2) (pa_cons (pv 3) pa_nil)))))))), ?_⟩
    obtain ⟨fa, fvs, rfl, hsf, hfs⟩ := hf.tupI
    have hlen : fvs.length = F.length := by rw [TpAll.length hfs, List.length_map]
    walk_at "st"
    intro M nM
    refine lc_it (walk_tup (K := K) (a := fa) (xs := fvs)) (fun j H2 => Ok (Same H H2 ∧ ∃ ps : List PKV, H2 M = some (.lst (ps.map fun x => .ref x.1)) ∧ ps.length = j ∧ (∀ x ∈ ps, PkOk H2 x) ∧ ps.map (fun x => (x.2.2.1, x.2.2.2)) = (F.take j).map (fun s => (ptK s.pt, V.int s.2.2))))
      ⟨Same.new nM, [], upd_same, rfl, fun x hx => absurd hx List.not_mem_nil, rfl⟩ (fun j H2 _ ⟨s2, _⟩ => TK.seqT (Same.tk s2) hsf) ?_ ?_
    · rintro j x H2 H3 hj ⟨s2, ps, hM, lps, pk, ep⟩ ⟨rfl, hx⟩
      obtain ⟨s, hsF, hz⟩ := SqV.get hfs hx
      have hz := Tp.mono (Same.tk s2) _ _ hz
      obtain ⟨b, rfl, hsb⟩ := hz.int3
      walk_at "st"
      intro p np
      have s3 : Same H3 (upd H3 p (.tup [.int s.1, .int s.2.1])) := Same.new np
      have hsb3 := TK.seqT (Same.tk s3) hsb
      walk_at "st"
      intro p2 np2
      have s4 : Same H3 (upd (upd H3 p (.tup [.int s.1, .int s.2.1])) p2 (.tup [.ref p, .int s.2.2])) := Same.trans s3 (Same.new np2)
      have hM4 := s4 _ _ hM
      have hp4 : (upd (upd H3 p (.tup [.int s.1, .int s.2.1])) p2 (.tup [.ref p, .int s.2.2])) p = some (.tup [.int s.1, .int s.2.1]) := Same.new np2 _ _ upd_same
      have hsz : (ps.map fun x => V.ref x.1).length < sizeLine := by
        rw [List.length_map]
        exact small1000 (by omega)
      have neM : ∀ b xs, (upd (upd H3 p (.tup [.int s.1, .int s.2.1])) p2 (.tup [.ref p, .int s.2.2])) b = some (.tup xs) → (upd (upd (upd H3 p (.tup [.int s.1, .int s.2.1])) p2 (.tup [.ref p, .int s.2.2])) M (.lst ((ps.map fun x => V.ref x.1) ++ [.ref p2]))) b = some (.tup xs) := fun b xs e => by
        rw [upd_ne (ne_of e hM4 (by intro z; cases z))]
        exact e
      refine ⟨_, hM4, hsz, Same.fresh (Same.trans s2 s4) nM, ps ++ [(p2, p, ptK s.pt, .int s.2.2)], by rw [upd_same, List.map_append]; rfl, by rw [List.length_append, lps]; rfl, fun x hx => ?_, ?_⟩
      · rcases List.mem_append.mp hx with h | h
        · obtain ⟨k1, k2⟩ := pk x h
          exact ⟨neM _ _ (s4 _ _ k1), neM _ _ (s4 _ _ k2)⟩
        · rw [List.mem_singleton.mp h]
          exact ⟨neM _ _ upd_same, neM _ _ hp4⟩
      · rw [take_more hsF, List.map_append, List.map_append, ep]
        rfl
    · rintro H2 ⟨s2, ps, hM, lps, pk, ep⟩
      rw [hlen, List.take_length] at ep
      refine ⟨M, ps, rfl, SqL.of hM, pk, fun D nD => ?_⟩
      have nD0 : H D = none := Same.back s2 nD
      have hD : (upd H2 D (.dT (putAllK [] ps))) D = some (.dT (cellK (cellsOf F))) := by
        rw [upd_same, show putAllK [] ps = cellK (cellsOf F) from putAll_cells (G := []) ep (asc_nd asc)]
      have s3 : Same H (upd H2 D (.dT (putAllK [] ps))) := Same.trans s2 (Same.new nD)
      generalize hH3 : upd H2 D (.dT (putAllK [] ps)) = H3 at hD s3
      walk_at "st"
      refine for_range (lo := 0) (n := many.toNat) (fun i σ H' => Ok (∃ (y5 y6 y7 : Option V) (wv' : V) (m' : CM) (w' : Wk), σ = [some tv, some (.ref fa), some wv', some (.int many), some (.ref D), y5, y6, y7] ∧ runW Tb i (colF F, wk) = some (col m', w') ∧ (m'.map (·.1)).Nodup ∧ m'.length ≤ F.length + i ∧ H' D = some (.dT (cellK m')) ∧ Tp K H' wv' (wkD w') ∧ Same H H')) ?_ ?_ ?_
      · exact ⟨_, _, _, wv, cellsOf F, wk, rfl, rfl, asc_nd asc, by unfold cellsOf; rw [List.length_map]; exact Nat.le_refl _, hD, Tp.mono (Same.tk s3) _ _ hw, s3⟩
      · rintro i σ H' hi ⟨y5, y6, y7, wv', m', w', rfl, hrun, nd, lm, hD', hw', sm⟩
        have fit' := fit.run ok hrun
        have ht' := Tp.mono (Same.tk sm) _ _ ht
        have lm9 : m'.length ≤ 900 := by omega
        walk_at "st"
        refine ⟨fun st H4 s4 => ?_, fun z st v H4 m4 e4 nd4 lm4 hD4 hv4 k4 => ?_⟩
        · have hD4 := s4 _ _ hD'
          have nn := FloorOf.nn fit'
          walk_at "st"
          intro v H5 F' fo hv s5
          have hw5 := Tp.mono (Same.tk (Same.trans s4 s5)) _ _ hw'
          walk_at "st"
          intro p np
          have s6 : Same H5 (upd H5 p (.tup [v, wv', .int (0 + (i : Nat))])) := Same.new np
          refine q _ _ i F' (col m', w') ⟨hrun, Nat.le_of_lt hi, .inr st⟩ fo (.tup (SqT.of upd_same) (.cons (Tp.mono (Same.tk s6) _ _ hv) (.cons (Tp.mono (Same.tk s6) _ _ hw5) (.cons ?_ .nil)))) (Same.trans sm (Same.trans s4 (Same.trans s5 s6)))
          rw [Int.zero_add]
          exact .int _
        · have hn : ∃ u, v = .ref u := by
            obtain ⟨u, _, e, _⟩ := hv4.tupI
            exact ⟨u, e⟩
          obtain ⟨u, rfl⟩ := hn
          walk_at "st"
          refine ⟨_, _, _, .ref u, m4, z.2, rfl, ?_, nd4, by omega, hD4, hv4, ?_⟩
          · show (runW Tb i (colF F, wk)).bind (stepW Tb) = _
            rw [hrun, e4]
            exact st
          · exact ((Same.keepE (E := [D]) sm).trans k4).same fun b hb => by
              rw [List.mem_singleton.mp hb]
              exact nD0
      · rintro σ H' ⟨y5, y6, y7, wv', m', w', rfl, hrun, nd, lm, hD', hw', sm⟩
        have fit' := fit.run ok hrun
        have nn := FloorOf.nn fit'
        have lm9 : m'.length ≤ 900 := by omega
        walk_at "st"
        intro v H5 F' fo hv s5
        have hw5 := Tp.mono (Same.tk s5) _ _ hw'
        walk_at "st"
        intro p np
        have s6 : Same H5 (upd H5 p (.tup [v, wv', .int many])) := Same.new np
        refine q _ _ many.toNat F' (col m', w') ⟨hrun, Nat.le_refl _, .inl rfl⟩ fo (.tup (SqT.of upd_same) (.cons (Tp.mono (Same.tk s6) _ _ hv) (.cons (Tp.mono (Same.tk s6) _ _ hw5) (.cons ?_ .nil)))) (Same.trans sm (Same.trans s5 s6))
        rw [show ((many.toNat : Nat) : Int) = many by omega]
        exact .int _
end

/-! ### walks without an end, by what they read -/
structure Inf (T : List (List Ent)) (z0 : WSt) (Y : Nat → WSt) : Prop where
  run : ∀ k, runW T k z0 = some (Y k)
def stY (Y : Nat → WSt) (k : Nat) : List Int := [(Y k).2.2.2.1, (Y k).2.2.2.2, (Y k).1 (wPt (Y k).2)]
theorem stY_eq {Y : Nat → WSt} {i j : Nat} : stY Y i = stY Y j ↔ (Y i).2.2.2 = (Y j).2.2.2 ∧ (Y i).1 (wPt (Y i).2) = (Y j).1 (wPt (Y j).2) := by
  unfold stY
  constructor
  · intro h
    injection h with a h
    injection h with b h
    injection h with c _
    exact ⟨Prod.ext a b, c⟩
  · rintro ⟨a, c⟩
    rw [a, c]
section
variable {T : List (List Ent)} {z0 : WSt} {Y : Nat → WSt}
theorem inf_of (h : ∀ k, runW T k z0 ≠ none) : ∃ Y, Inf T z0 Y := ⟨fun k => (runW T k z0).getD z0, ⟨fun k => by
  cases e : runW T k z0 with
  | none => exact absurd e (h k)
  | some y => rfl⟩⟩
theorem Inf.from (h : Inf T z0 Y) (f d : Nat) : runW T d (Y f) = some (Y (f + d)) := by
  have e := h.run (f + d)
  rw [runW_add, h.run f] at e
  exact e
theorem Inf.next (h : Inf T z0 Y) (k : Nat) : ∃ e, entAt T (Y k).2.2.2.2 ((Y k).1 (wPt (Y k).2)) = some e ∧ Y (k + 1) = (dab (Y k).1 (wPt (Y k).2) e.1, behind (Y k).2 e) := by
  obtain ⟨y, e, h1, h2, h3⟩ := run_succ (h.run (k + 1))
  rw [h.run k] at h1
  obtain rfl := Option.some.inj h1
  exact ⟨e, h2, h3⟩
theorem Inf.shift (h : Inf T z0 Y) {f p N : Nat} (per : ∀ i, f ≤ i → i < N → stY Y i = stY Y (i + p)) (fN : f < N) : ∀ d, f + d ≤ N → (Y (f + d + p)).2 = mvW (Y (f + d)).2 (mvOf (Y f) (Y (f + p)))
  | 0, _ => by
    have e := (stY_eq.mp (per f (Nat.le_refl _) fN)).1
    show (Y (f + p)).2 = ((Y f).2.1 + ((Y (f + p)).2.1 - (Y f).2.1), (Y f).2.2.1 + ((Y (f + p)).2.2.1 - (Y f).2.2.1), (Y f).2.2.2)
    refine Prod.ext (by show _ = (Y f).2.1 + ((Y (f + p)).2.1 - (Y f).2.1); omega) (Prod.ext (by show _ = (Y f).2.2.1 + ((Y (f + p)).2.2.1 - (Y f).2.2.1); omega) e.symm)
  | d + 1, l => by
    have ih := h.shift per fN d (by omega)
    obtain ⟨e1, e2⟩ := stY_eq.mp (per (f + d) (by omega) (by omega))
    obtain ⟨a, a1, a2⟩ := h.next (f + d)
    obtain ⟨b, b1, b2⟩ := h.next (f + d + p)
    rw [← e2, ← e1, a1] at b1
    obtain rfl := Option.some.inj b1
    rw [show f + (d + 1) + p = f + d + p + 1 by omega, show f + (d + 1) = f + d + 1 by omega, b2, a2]
    show behind (Y (f + d + p)).2 a = mvW (behind (Y (f + d)).2 a) _
    rw [ih, behind_mv]
theorem mvW_zero (u : Wk) : mvW u (0, 0) = u := by
  show (u.1 + 0, u.2.1 + 0, u.2.2) = u
  rw [Int.add_zero, Int.add_zero]
/-- a round that reads what the round before read, at the same places, has changed nothing -/
theorem Inf.round (h : Inf T z0 Y) {f p : Nat} (p1 : 1 ≤ p) (per : ∀ i, f ≤ i → i < f + p → stY Y i = stY Y (i + p)) (m0 : mvOf (Y f) (Y (f + p)) = (0, 0)) : Y (f + p) = Y f := by
  have sh := h.shift per (by omega)
  have s0 : (Y (f + p)).2 = mvW (Y f).2 (0, 0) := by
    have z := sh 0 (by omega)
    rw [m0] at z
    exact z
  have same := run_same (T := T) (z := Y f) (g := (Y (f + p)).1) (v := (0, 0)) (k := p) (h.from f p) (fun j jl y hy => by
    rw [h.from f j] at hy
    obtain rfl := Option.some.inj hy
    have e := h.from (f + p) j
    have sj := sh j (by omega)
    rw [m0] at sj
    have rd := (stY_eq.mp (per (f + j) (by omega) (by omega))).2
    rw [show f + p + j = f + j + p by omega] at e
    refine ⟨(Y (f + j + p)).1, ?_, ?_⟩
    · rw [← s0, ← sj]
      exact e
    · rw [rd, sj]
      show _ = (Y (f + j + p)).1 (wPt (mvW (Y (f + j)).2 (0, 0)))
      rfl)
  refine Prod.ext ?_ (by rw [s0, mvW_zero])
  funext q
  by_cases c : q ∈ visP (visOf T (Y f) p)
  · have z := same q c
    rw [show addP q (0, 0) = q from Prod.ext (Int.add_zero _) (Int.add_zero _)] at z
    exact z
  · exact (run_vis (h.from f p)).1 q c
theorem Inf.rep (h : Inf T z0 Y) {f p : Nat} (e : Y (f + p) = Y f) (d : Nat) : Y (f + d + p) = Y (f + d) := by
  have a := h.from (f + p) d
  rw [e, h.from f d] at a
  rw [show f + d + p = f + p + d by omega]
  exact (Option.some.inj a).symm
theorem Inf.rep_st (h : Inf T z0 Y) {f p : Nat} (e : Y (f + p) = Y f) : ∀ i, f ≤ i → stY Y i = stY Y (i + p) := fun i l => by
  obtain ⟨d, rfl⟩ : ∃ d, i = f + d := ⟨i - f, by omega⟩
  unfold stY
  rw [h.rep e d]
theorem Inf.roundAt (h : Inf T z0 Y) {f p : Nat} : HoldsAt T z0 (.round, f, p) ↔ Y (f + p) = Y f := by
  constructor
  · rintro ⟨z1, z2, e1, e2, _, _, e⟩
    have r1 : runW T f z0 = some z1 := e1.run
    have r2 : runW T p z1 = some z2 := e2.run
    have e : z2 = z1 := e
    rw [h.run f] at r1
    obtain rfl := Option.some.inj r1
    rw [h.from f p] at r2
    rw [Option.some.inj r2, e]
  · intro e
    exact ⟨Y f, Y (f + p), ⟨h.run f, Nat.le_refl _, .inl rfl⟩, ⟨h.from f p, Nat.le_refl _, .inl rfl⟩, rfl, rfl, e⟩
theorem mv_hd (u : Wk) (m : Pt) : (mvW u m).2.2 = u.2.2 := rfl
theorem Inf.streetAt (h : Inf T z0 Y) {c n : Nat} (g0 : Fit c n 3 z0) {f p : Nat} (p1 : 1 ≤ p) : HoldsAt T z0 (.street, f, p) ↔ (∀ i, f ≤ i → stY Y i = stY Y (i + p)) ∧ mvOf (Y f) (Y (f + p)) ≠ (0, 0) := by
  constructor
  · rintro ⟨z1, z2, e1, e2, _, _, ne, hh, so⟩
    have r1 : runW T f z0 = some z1 := e1.run
    have r2 : runW T p z1 = some z2 := e2.run
    have r1' := r1
    have r2' := r2
    rw [h.run f] at r1
    obtain rfl := Option.some.inj r1
    rw [h.from f p] at r2
    obtain rfl := Option.some.inj r2
    refine ⟨fun i l => ?_, ne⟩
    have g := street_goes (M := i + p + 1) p1 r1' r2' hh ne so
    obtain ⟨y, y', h1, h2, h3, h4⟩ := g.rd i l (by omega)
    rw [h.run i] at h1
    rw [h.run (i + p)] at h2
    obtain rfl := Option.some.inj h1
    obtain rfl := Option.some.inj h2
    refine stY_eq.mpr ⟨?_, h4.symm⟩
    rw [h3]
    rfl
  · rintro ⟨per, ne⟩
    have hw : ∀ q, z0.1 q ≠ 0 → (q.1 - z0.2.1).natAbs ≤ 6 ∧ (q.2 - z0.2.2.1).natAbs ≤ 6 := fun q hq => by
      have a : (-3 ≤ q.1 ∧ q.1 ≤ 3) ∧ (-3 ≤ q.2 ∧ q.2 ≤ 3) := g0.near q hq
      have b : (-3 ≤ z0.2.1 ∧ z0.2.1 ≤ 3) ∧ (-3 ≤ z0.2.2.1 ∧ z0.2.2.1 ≤ 3) := g0.wk
      omega
    have go : GoesOn T z0 f p (f + (f + 6 + 2 * p + 2) * p + 1) (mvOf (Y f) (Y (f + p))) := ⟨ne, fun t ft _ => by
      obtain ⟨d, rfl⟩ : ∃ d, t = f + d := ⟨t - f, by omega⟩
      refine ⟨Y (f + d), Y (f + d + p), h.run _, h.run _, h.shift (N := f + d + 1) (fun i l _ => per i l) (by omega) d (by omega), (stY_eq.mp (per (f + d) ft)).2.symm⟩⟩
    have hh : (Y (f + p)).2.2.2 = (Y f).2.2.2 := (stY_eq.mp (per f (Nat.le_refl _))).1.symm
    exact ⟨Y f, Y (f + p), ⟨h.run f, Nat.le_refl _, .inl rfl⟩, ⟨h.from f p, Nat.le_refl _, .inl rfl⟩, rfl, rfl, ne, hh, go.street p1 (h.run f) (h.from f p) hh rfl hw (by omega)⟩
/-- the move is the same from each step on -/
theorem Inf.move (h : Inf T z0 Y) {f f0 p : Nat} (per : ∀ i, f ≤ i → stY Y i = stY Y (i + p)) (l : f ≤ f0) : mvOf (Y f0) (Y (f0 + p)) = mvOf (Y f) (Y (f + p)) := by
  obtain ⟨d, rfl⟩ : ∃ d, f0 = f + d := ⟨f0 - f, by omega⟩
  have z := h.shift (N := f + d + 1) (fun i l _ => per i l) (by omega) d (by omega)
  generalize mvOf (Y f) (Y (f + p)) = m at *
  unfold mvOf
  rw [z]
  show ((Y (f + d)).2.1 + m.1 - (Y (f + d)).2.1, (Y (f + d)).2.2.1 + m.2 - (Y (f + d)).2.2.1) = m
  exact Prod.ext (by show _ = m.1; omega) (by show _ = m.2; omega)
/-- papers of rounds and streets, by what the walk reads -/
theorem Inf.right (h : Inf T z0 Y) {c n : Nat} (g0 : Fit c n 3 z0) {k : PK} (hk : k ≠ .stops) {f p : Nat} (p1 : 1 ≤ p) : HoldsAt T z0 (k, f, p) ↔ (∀ i, f ≤ i → stY Y i = stY Y (i + p)) ∧ (k = .round ↔ mvOf (Y f) (Y (f + p)) = (0, 0)) := by
  cases k with
  | stops => exact absurd rfl hk
  | round =>
    rw [h.roundAt]
    constructor
    · intro e
      refine ⟨h.rep_st e, fun _ => ?_, fun _ => rfl⟩
      unfold mvOf
      rw [e]
      exact Prod.ext (Int.sub_self _) (Int.sub_self _)
    · rintro ⟨per, m⟩
      exact h.round p1 (fun i l _ => per i l) (m.mp rfl)
  | street =>
    rw [h.streetAt g0 p1]
    constructor
    · rintro ⟨per, ne⟩
      exact ⟨per, fun e => (by cases e), fun e => absurd e ne⟩
    · rintro ⟨per, m⟩
      exact ⟨per, fun e => (by have := m.mpr e; cases this)⟩
/-- an earlier beginning -/
theorem Inf.sooner (h : Inf T z0 Y) {c n : Nat} (g0 : Fit c n 3 z0) {k : PK} (hk : k ≠ .stops) {f f0 p : Nat} (p1 : 1 ≤ p) (l : f ≤ f0) (r : HoldsAt T z0 (k, f0, p)) (st : ∀ i, f ≤ i → i < f0 → stY Y i = stY Y (i + p)) : HoldsAt T z0 (k, f, p) := by
  obtain ⟨per, m⟩ := (h.right g0 hk p1).mp r
  have perF : ∀ i, f ≤ i → stY Y i = stY Y (i + p) := fun i li => by
    rcases Nat.lt_or_ge i f0 with g | g
    · exact st i li g
    · exact per i g
  refine (h.right g0 hk p1).mpr ⟨perF, ?_⟩
  rw [← h.move perF l]
  exact m
theorem none_add {j : Nat} (h : runW T j z0 = none) : ∀ i, runW T (j + i) z0 = none := fun i => by
  rw [runW_add, h]
  rfl
theorem inf_round {f p : Nat} (p1 : 1 ≤ p) (r : HoldsAt T z0 (.round, f, p)) : ∃ Y, Inf T z0 Y := by
  obtain ⟨z1, z2, e1, e2, _, _, e⟩ := r
  have r1 : runW T f z0 = some z1 := e1.run
  have r2 : runW T p z1 = some z2 := e2.run
  have e : z2 = z1 := e
  subst e
  refine inf_of fun k => ?_
  induction k using Nat.strongRecOn with
  | ind k ih =>
    intro z
    rcases Nat.lt_or_ge k (f + p) with g | g
    · have zz := none_add z (f + p - k)
      rw [show k + (f + p - k) = f + p by omega, runW_add, r1] at zz
      have zz : runW T p z2 = none := zz
      rw [r2] at zz
      cases zz
    · refine ih (k - p) (by omega) ?_
      rw [show k = f + p + (k - p - f) by omega, runW_add, runW_add, r1] at z
      rw [show k - p = f + (k - p - f) by omega, runW_add, r1]
      have z : (runW T p z2).bind _ = none := z
      rw [r2] at z
      exact z
theorem inf_street {f p : Nat} (p1 : 1 ≤ p) (r : HoldsAt T z0 (.street, f, p)) : ∃ Y, Inf T z0 Y := by
  obtain ⟨z1, z2, e1, e2, _, _, ne, hh, so⟩ := r
  refine inf_of fun k z => ?_
  have g := street_goes (M := f + k + p + 1) p1 e1.run e2.run hh ne so
  obtain ⟨y, y', h1, h2, _⟩ := g.rd (f + k) (show f ≤ f + k by omega) (show f + k + p < f + k + p + 1 by omega)
  have z2 := none_add z f
  rw [Nat.add_comm k f, h1] at z2
  cases z2
/-! what the finder is given -/
theorem Inf.told (h : Inf T z0 Y) : ∀ N, (told3 T z0 N).length = N ∧ ∀ k, k < N → ∃ e, (told3 T z0 N)[k]? = some e ∧ stI e = stY Y k ∧ wPt e.1 = wPt (Y k).2
  | 0 => ⟨rfl, fun k l => absurd l (Nat.not_lt_zero _)⟩
  | N + 1 => by
    obtain ⟨a, b⟩ := h.told N
    have e : told3 T z0 (N + 1) = told3 T z0 N ++ [((Y N).2, (Y N).1 (wPt (Y N).2), ((entAt T (Y N).2.2.2.2 ((Y N).1 (wPt (Y N).2))).map (·.1)).getD 0)] := by
      show told3 T z0 N ++ _ = _
      rw [h.run N]
    rw [e]
    refine ⟨by rw [List.length_append, a]; rfl, fun k l => ?_⟩
    rcases Nat.lt_or_ge k N with g | g
    · obtain ⟨x, x1, x2⟩ := b k g
      exact ⟨x, by rw [List.getElem?_append_left (by omega)]; exact x1, x2⟩
    · obtain rfl : k = N := by omega
      refine ⟨_, by rw [List.getElem?_append_right (by omega), a, Nat.sub_self]; rfl, rfl, rfl⟩
theorem Inf.back (h : Inf T z0 Y) {N t : Nat} (l : t < N) : ((told3 T z0 N).map stI).reverse[t]? = some (stY Y (N - 1 - t)) := by
  obtain ⟨a, b⟩ := h.told N
  obtain ⟨e, e1, e2, _⟩ := b (N - 1 - t) (by omega)
  rw [List.getElem?_reverse (by rw [List.length_map, a]; exact l), List.length_map, a, List.getElem?_map, e1, Option.map_some, e2]
/-- what a shift tells -/
theorem Inf.agree (h : Inf T z0 Y) {N k a : Nat} (z : ZOk ((told3 T z0 N).map stI).reverse k a) : k + a ≤ N ∧ (∀ i, N - k - a ≤ i → i + k < N → stY Y i = stY Y (i + k)) ∧ (k + a < N → stY Y (N - k - a - 1) ≠ stY Y (N - k - a - 1 + k)) := by
  obtain ⟨z1, z2, z3⟩ := z
  have ln : ((told3 T z0 N).map stI).reverse.length = N := by rw [List.length_reverse, List.length_map, (h.told N).1]
  rw [ln] at z1 z3
  refine ⟨z1, fun i l1 l2 => ?_, fun l => ?_⟩
  · have e := z2 (N - 1 - (i + k)) (by omega)
    rw [h.back (by omega), h.back (by omega)] at e
    have e := Option.some.inj e
    rw [show N - 1 - (N - 1 - (i + k)) = i + k by omega, show N - 1 - (k + (N - 1 - (i + k))) = i by omega] at e
    exact e.symm
  · have e := z3 l
    rw [h.back (by omega), h.back (by omega)] at e
    rw [show N - 1 - a = N - k - a - 1 + k by omega, show N - 1 - (k + a) = N - k - a - 1 by omega] at e
    exact fun q => e (congrArg some q.symm)
/-- of a sequence that comes again, places that lie whole periods apart are alike -/
theorem per_mod {α : Type} {s : Nat → α} {f p : Nat} (per : ∀ i, f ≤ i → s i = s (i + p)) : ∀ k i, f ≤ i → s (i + k * p) = s i
  | 0, i, _ => by rw [Nat.zero_mul, Nat.add_zero]
  | k + 1, i, l => by
    rw [Nat.succ_mul, ← Nat.add_assoc, ← per (i + k * p) (by omega)]
    exact per_mod per k i l
theorem per_window {α : Type} {s : Nat → α} {f p q N : Nat} (p1 : 1 ≤ p) (per : ∀ i, f ≤ i → s i = s (i + p)) (hN : f + p ≤ N) (q1 : 1 ≤ q) (dv : p % q = 0) (win : ∀ i, N - p ≤ i → i + q < N → s i = s (i + q)) : ∀ i, f ≤ i → s i = s (i + q) := by
  obtain ⟨r, hr⟩ : ∃ r, p = q * r := ⟨p / q, by have := Nat.div_add_mod p q; omega⟩
  have r1 : 1 ≤ r := by
    rcases Nat.eq_zero_or_pos r with z | z
    · rw [z] at hr
      omega
    · exact z
  have qp : q ≤ p := by
    rw [hr]
    exact Nat.le_mul_of_pos_right _ r1
  have chain : ∀ t e, N - p + e + q * t < N → s (N - p + e + q * t) = s (N - p + e) := by
    intro t
    induction t with
    | zero => intro e _; rfl
    | succ t ih =>
      intro e l
      rw [Nat.mul_succ] at l ⊢
      rw [← Nat.add_assoc, ← win (N - p + e + q * t) (by omega) (by omega)]
      exact ih e (by omega)
  intro i li
  have e1 : s i = s (i + N * p) := (per_mod per N i li).symm
  have e2 : s (i + q) = s (i + N * p + q) := by
    rw [show i + N * p + q = i + q + N * p by omega]
    exact (per_mod per N (i + q) (by omega)).symm
  rw [e1, e2]
  have big : N - p ≤ i + N * p := by
    have : N ≤ N * p := Nat.le_mul_of_pos_right _ p1
    omega
  generalize i + N * p = j at big
  have dm := Nat.div_add_mod (j - (N - p)) p
  have ml := Nat.mod_lt (j - (N - p)) (show p > 0 by omega)
  generalize (j - (N - p)) % p = d at dm ml
  generalize (j - (N - p)) / p = k at dm
  have ej : j = N - p + d + k * p := by
    rw [Nat.mul_comm k p]
    omega
  rw [ej]
  rw [per_mod per k _ (by omega), show N - p + d + k * p + q = N - p + d + q + k * p by omega, per_mod per k _ (by omega)]
  rcases Nat.lt_or_ge (d + q) p with g | g
  · exact win _ (by omega) (by omega)
  · have e3 : s (N - p + d + q) = s (N - p + (d + q - p)) := by
      rw [show N - p + d + q = N - p + (d + q - p) + p by omega]
      exact (per _ (by omega)).symm
    rw [e3]
    have m1 : q * r = q * (r - 1) + q := by
      rw [← Nat.mul_succ, Nat.succ_eq_add_one, Nat.sub_add_cancel r1]
    have e4 := chain (r - 1) (d + q - p) (by omega)
    rw [show N - p + (d + q - p) + q * (r - 1) = N - p + d by omega] at e4
    exact e4
theorem likely_in {as : List Nat} {p : Nat} (h1 : p ≤ asA as p) (h2 : mulOf as (likely as (p - 1)) p = false) (p1 : 1 ≤ p) : ∀ {n : Nat}, p ≤ n → p ∈ likely as n
  | 0, l => absurd l (by omega)
  | n + 1, l => by
    show p ∈ likely as n ++ _
    rcases Nat.lt_or_ge n p with g | g
    · obtain rfl : p = n + 1 := by omega
      refine List.mem_append_right _ ?_
      have h2 : mulOf as (likely as n) (n + 1) = false := h2
      rw [if_pos ⟨h1, h2⟩]
      exact List.mem_singleton.mpr rfl
    · exact List.mem_append_left _ (likely_in h1 h2 p1 g)
theorem paps_in {L : List (Wk × Int × Int)} {as : List Nat} {most : Int} {p : Nat} {x : Pap} (hx : x ∈ papOf1 L as most p) : ∀ {ps : List Nat}, p ∈ ps → x ∈ papsOf L as most ps
  | [], h => absurd h List.not_mem_nil
  | k :: r, h => by
    show x ∈ papOf1 L as most k ++ papsOf L as most r
    rcases List.mem_cons.mp h with rfl | h
    · exact List.mem_append_left _ hx
    · exact List.mem_append_right _ (paps_in hx h)
/-- the finder finds what comes again often enough -/
theorem Inf.found (h : Inf T z0 Y) {c n : Nat} (g0 : Fit c n 3 z0) {f p N : Nat} (p1 : 1 ≤ p) (per : ∀ i, f ≤ i → stY Y i = stY Y (i + p)) (least : ∀ q, 1 ≤ q → q < p → p % q = 0 → ¬ ∀ i, f ≤ i → stY Y i = stY Y (i + q)) (N2 : f + 2 * p ≤ N) (p2 : p ≤ 2000) {as : List Nat} (zs : ZsOk (told3 T z0 N) as) {most : Int} (ok : mvOf (Y f) (Y (f + p)) = (0, 0) ∨ (p : Int) ≤ most) :
    ∃ x ∈ papsOf (told3 T z0 N) as most (likely as (as.length - 1)), HoldsAt T z0 x := by
  have ln := (h.told N).1
  have lz : as.length = min 2000 (N / 2) + 1 := by
    have z := zs.len
    unfold zMost at z
    rw [ln] at z
    exact z
  have pn : p ≤ as.length - 1 := by omega
  have at_ : ∀ k, 1 ≤ k → k ≤ as.length - 1 → ZOk ((told3 T z0 N).map stI).reverse k (asA as k) := fun k k1 k2 => by
    have e : as[k]? = some (asA as k) := by
      unfold asA
      rw [List.getElem?_eq_getElem (by omega)]
      rfl
    exact zs.z k _ k1 e
  obtain ⟨z1, z2, z3⟩ := h.agree (at_ p p1 pn)
  have big : N - p - asA as p ≤ f := by
    refine Classical.byContradiction fun q => ?_
    exact z3 (by omega) (per _ (by omega))
  have hlk : p ∈ likely as (as.length - 1) := by
    refine likely_in (by omega) ?_ p1 pn
    rw [Bool.eq_false_iff]
    intro m
    unfold mulOf at m
    obtain ⟨q, hq, hd⟩ := List.any_eq_true.mp m
    obtain ⟨d1, d2⟩ := of_decide_eq_true hd
    obtain ⟨q1, q2, q3⟩ := likely_mem hq
    obtain ⟨y1, y2, y3⟩ := h.agree (at_ q q1 (by omega))
    exact least q q1 (by omega) d1 (per_window (N := N) p1 per (by omega) q1 d1 fun i l1 l2 => y2 i (by omega) l2)
  have perF : ∀ i, N - p - asA as p ≤ i → stY Y i = stY Y (i + p) := fun i l => by
    rcases Nat.lt_or_ge (i + p) N with g | g
    · exact z2 i l g
    · exact per i (by omega)
  have mv := h.move perF big
  obtain ⟨e1, a1, _, a3⟩ := (h.told N).2 (N - p - asA as p) (by omega)
  obtain ⟨e2, b1, _, b3⟩ := (h.told N).2 (N - p - asA as p + p) (by omega)
  have pl : plA (told3 T z0 N) (N - p - asA as p) = plA (told3 T z0 N) (N - p - asA as p + p) ↔ mvOf (Y f) (Y (f + p)) = (0, 0) := by
    unfold plA
    rw [a1, b1, Option.map_some, Option.map_some, a3, b3, mv]
    constructor
    · intro e
      have e := Option.some.inj e
      have x1 := (Prod.mk.inj e).1
      have x2 := (Prod.mk.inj e).2
      unfold mvOf
      exact Prod.ext (by show _ - _ = (0 : Int); omega) (by show _ - _ = (0 : Int); omega)
    · intro e
      have x1 := (Prod.mk.inj e).1
      have x2 := (Prod.mk.inj e).2
      congr 1
      exact Prod.ext (by show (Y _).2.1 = (Y _).2.1; omega) (by show (Y _).2.2.1 = (Y _).2.2.1; omega)
  by_cases m : mvOf (Y f) (Y (f + p)) = (0, 0)
  · refine ⟨(.round, N - p - asA as p, p), paps_in (p := p) ?_ hlk, ?_⟩
    · unfold papOf1
      rw [ln, if_pos (pl.mpr m)]
      exact List.mem_singleton.mpr rfl
    · exact (h.right g0 (by intro e; cases e) p1).mpr ⟨perF, fun _ => by rw [← mv]; exact m, fun _ => rfl⟩
  · have pm := ok.resolve_left m
    refine ⟨(.street, N - p - asA as p, p), paps_in (p := p) ?_ hlk, ?_⟩
    · unfold papOf1
      rw [ln, if_neg (fun e => m (pl.mp e)), if_pos pm]
      exact List.mem_singleton.mpr rfl
    · exact (h.right g0 (by intro e; cases e) p1).mpr ⟨perF, fun e => (by cases e), fun e => absurd (by rw [mv]; exact e) m⟩
theorem FirstOf.some {g : Pap → Prop} {l : List Pap} {o : Option Pap} (h : FirstOf g l o) (x : Pap) (hx : x ∈ l) (gx : g x) : ∃ p, o = some p := by
  rcases h with ⟨_, no⟩ | ⟨l1, p, l2, _, e, _⟩
  · exact absurd gx (no x hx)
  · exact ⟨p, e⟩
end

/-! ### the known streets on a blank floor, worked out -/
def stepC (T : List (List Ent)) (z : CM × Wk) : Option (CM × Wk) := (entAt T z.2.2.2.2 (col z.1 (wPt z.2))).map fun e => (paintM z.1 (wPt z.2) e.1, behind z.2 e)
def runC (T : List (List Ent)) : Nat → CM × Wk → Option (CM × Wk)
  | 0, z => some z
  | n + 1, z => (stepC T z).bind (runC T n)
theorem stepC_ok {T : List (List Ent)} {z z' : CM × Wk} (nd : (z.1.map (·.1)).Nodup) (h : stepC T z = some z') : stepW T (col z.1, z.2) = some (col z'.1, z'.2) ∧ (z'.1.map (·.1)).Nodup := by
  unfold stepC at h
  cases e : entAt T z.2.2.2.2 (col z.1 (wPt z.2)) with
  | none =>
    rw [e] at h
    cases h
  | some a =>
    rw [e] at h
    have h := Option.some.inj h
    subst h
    refine ⟨?_, paint_nd _ _ nd⟩
    rw [step_some (z := (col z.1, z.2)) e]
    show some (dab (col z.1) (wPt z.2) a.1, behind z.2 a) = some (col (paintM z.1 (wPt z.2) a.1), behind z.2 a)
    rw [paint_col _ _ nd]
theorem runC_ok {T : List (List Ent)} : ∀ {n : Nat} {z z' : CM × Wk}, (z.1.map (·.1)).Nodup → runC T n z = some z' → runW T n (col z.1, z.2) = some (col z'.1, z'.2) ∧ (z'.1.map (·.1)).Nodup
  | 0, z, z', nd, h => by
    obtain rfl := Option.some.inj h
    exact ⟨rfl, nd⟩
  | n + 1, z, z', nd, h => by
    have h : (stepC T z).bind (runC T n) = some z' := h
    cases e : stepC T z with
    | none =>
      rw [e] at h
      cases h
    | some y =>
      rw [e] at h
      obtain ⟨a, b⟩ := stepC_ok nd e
      obtain ⟨c, d⟩ := runC_ok b (show runC T n y = some z' from h)
      refine ⟨?_, d⟩
      rw [Nat.add_comm n 1, runW_add]
      show ((some (col z.1, z.2)).bind (stepW T)).bind (runW T n) = _
      rw [show (some (col z.1, z.2)).bind (stepW T) = stepW T (col z.1, z.2) from rfl, a]
      exact c
def visC (T : List (List Ent)) (z : CM × Wk) : Nat → Vis
  | 0 => []
  | k + 1 => visC T z k ++ (match runC T k z with | some y => [(wPt y.2, col y.1 (wPt y.2), ((entAt T y.2.2.2.2 (col y.1 (wPt y.2))).map (·.1)).getD 0)] | none => [])
theorem visC_ok {T : List (List Ent)} {z : CM × Wk} (nd : (z.1.map (·.1)).Nodup) : ∀ {k : Nat}, (∀ j, j < k → (runC T j z).isSome = true) → visC T z k = visOf T (col z.1, z.2) k
  | 0, _ => rfl
  | k + 1, h => by
    have ih := visC_ok nd (k := k) fun j l => h j (Nat.lt_succ_of_lt l)
    obtain ⟨y, hy⟩ := Option.isSome_iff_exists.mp (h k (Nat.lt_succ_self k))
    rw [visOf_succ (runC_ok nd hy).1]
    show visC T z k ++ _ = _
    rw [hy, ih]
def nearB (R : Nat) (p : Pt) : Bool := decide (p.1.natAbs ≤ R ∧ p.2.natAbs ≤ R)
def streetB (L : Vis) (m : CM) (mv : Pt) (R : Nat) : Bool :=
  ((visP L).all (nearB R) && (m.all fun e => nearB R e.1)) && (visP L).all fun q =>
    ((List.range (2 * R + 1)).any fun k => decide (mvk q mv ((k + 1 : Nat) : Int) ∈ visP L) && decide (lpt L (mvk q mv ((k + 1 : Nat) : Int)) = frd L q) && (List.range k).all fun j => decide (mvk q mv ((j + 1 : Nat) : Int) ∉ visP L) && decide (col m (mvk q mv ((j + 1 : Nat) : Int)) = frd L q)) ||
    (decide (frd L q = 0) && (List.range (2 * R + 1)).all fun j => decide (mvk q mv ((j + 1 : Nat) : Int) ∉ visP L) && decide (col m (mvk q mv ((j + 1 : Nat) : Int)) = 0))
theorem far_off {q mv : Pt} {R : Nat} (ne : mv ≠ (0, 0)) (hq : nearB R q = true) {j : Int} (lj : (2 * R + 1 : Int) < j) : nearB R (mvk q mv j) = false := by
  unfold nearB at hq ⊢
  have hq := of_decide_eq_true hq
  rw [decide_eq_false_iff_not]
  rintro ⟨a, b⟩
  have a : (q.1 + j * mv.1).natAbs ≤ R := a
  have b : (q.2 + j * mv.2).natAbs ≤ R := b
  by_cases z : mv.1 = 0
  · have z2 : mv.2 ≠ 0 := fun e => ne (Prod.ext z e)
    have := natAbs_mul_ge (j := j) z2
    generalize j * mv.2 = t at *
    omega
  · have := natAbs_mul_ge (j := j) z
    generalize j * mv.1 = t at *
    omega
theorem streetB_ok {L : Vis} {m : CM} {mv : Pt} {R : Nat} (ne : mv ≠ (0, 0)) (h : streetB L m mv R = true) : StreetOk L (col m) mv := by
  unfold streetB at h
  simp only [Bool.and_eq_true, List.all_eq_true] at h
  obtain ⟨⟨h1, h2⟩, h3⟩ := h
  intro q hq
  have z := h3 q hq
  rw [Bool.or_eq_true] at z
  rcases z with z | z
  · obtain ⟨k, hk, e⟩ := List.any_eq_true.mp z
    simp only [Bool.and_eq_true, decide_eq_true_eq, List.all_eq_true, List.mem_range] at e
    obtain ⟨⟨e1, e2⟩, e3⟩ := e
    refine .inl ⟨((k + 1 : Nat) : Int), by omega, e1, e2, fun j j0 jk => ?_⟩
    have y := e3 (j.toNat - 1) (by omega)
    rw [show ((j.toNat - 1 + 1 : Nat) : Int) = j by omega] at y
    exact y
  · simp only [Bool.and_eq_true, decide_eq_true_eq, List.all_eq_true, List.mem_range] at z
    obtain ⟨e1, e2⟩ := z
    refine .inr ⟨e1, fun j j0 => ?_⟩
    by_cases c : j ≤ 2 * R + 1
    · have y := e2 (j.toNat - 1) (by omega)
      rw [show ((j.toNat - 1 + 1 : Nat) : Int) = j by omega] at y
      exact y
    · have off := far_off ne (h1 q hq) (j := j) (by omega)
      refine ⟨fun y => ?_, ?_⟩
      · rw [h1 _ y] at off
        cases off
      · unfold col
        cases e : look m (mvk q mv j) with
        | none => rfl
        | some v =>
          have y := h2 _ (look_mem e)
          have y : nearB R (mvk q mv j) = true := y
          rw [y] at off
          cases off
def stC (T : List (List Ent)) (k : Nat) : List Int := match runC T k ([], wkO) with
  | some y => [y.2.2.2.1, y.2.2.2.2, col y.1 (wPt y.2)]
  | none => []
def knB (k : Kn) : Bool := match runC k.1 k.2.1 ([], wkO) with
  | none => false
  | some z1 => match runC k.1 k.2.2.1 z1 with
    | none => false
    | some z2 => (decide (z2.2.2.2 = z1.2.2.2) && decide ((z2.2.1 - z1.2.1, z2.2.2.1 - z1.2.2.1) ≠ ((0, 0) : Pt)) && (List.range k.2.2.1).all (fun j => (runC k.1 j z1).isSome)) &&
      (streetB (visC k.1 z1 k.2.2.1) z1.1 (z2.2.1 - z1.2.1, z2.2.2.1 - z1.2.2.1) 30 && decide (1 ≤ k.2.1)) &&
      ((List.range (k.2.1 + 2 * k.2.2.1)).all (fun j => (runC k.1 j ([], wkO)).isSome) && decide (stC k.1 (k.2.1 - 1) ≠ stC k.1 (k.2.1 - 1 + k.2.2.1))) &&
      (List.range k.2.2.1).all fun q => decide (q = 0) || !decide (k.2.2.1 % q = 0) || (List.range k.2.2.1).any fun i => decide (stC k.1 (k.2.1 + i) ≠ stC k.1 (k.2.1 + i + q))
theorem kn_b : (knL.all knB) = true := by decide +kernel
structure KnAt (k : Kn) (Y : Nat → WSt) : Prop where
  inf : Inf k.1 (colF [], wkO) Y
  right : HoldsAt k.1 (colF [], wkO) (.street, k.2.1, k.2.2.1)
  begins : 1 ≤ k.2.1 ∧ stY Y (k.2.1 - 1) ≠ stY Y (k.2.1 - 1 + k.2.2.1)
  least : ∀ q, 1 ≤ q → q < k.2.2.1 → k.2.2.1 % q = 0 → ¬ ∀ i, k.2.1 ≤ i → stY Y i = stY Y (i + q)
theorem kn_at {k : Kn} (hk : k ∈ knL) (p1 : 1 ≤ k.2.2.1) : ∃ Y, KnAt k Y := by
  have h := List.all_eq_true.mp kn_b k hk
  unfold knB at h
  split at h
  · cases h
  · rename_i z1 e1
    split at h
    · cases h
    · rename_i z2 e2
      simp only [Bool.and_eq_true, decide_eq_true_eq] at h
      obtain ⟨⟨⟨⟨⟨h1, h2⟩, h3⟩, h4, h5⟩, h6, h7⟩, h8⟩ := h
      obtain ⟨a1, a2⟩ := runC_ok (z := ([], wkO)) List.nodup_nil e1
      obtain ⟨b1, b2⟩ := runC_ok a2 e2
      have vis := visC_ok (T := k.1) (k := k.2.2.1) a2 fun j l => List.all_eq_true.mp h3 j (List.mem_range.mpr l)
      have so := streetB_ok h2 h4
      rw [vis] at so
      have r : HoldsAt k.1 (colF [], wkO) (.street, k.2.1, k.2.2.1) := ⟨(col z1.1, z1.2), (col z2.1, z2.2), ⟨a1, Nat.le_refl _, .inl rfl⟩, ⟨b1, Nat.le_refl _, .inl rfl⟩, rfl, rfl, h2, h1, so⟩
      obtain ⟨Y, hY⟩ := inf_street p1 r
      have est : ∀ j, j < k.2.1 + 2 * k.2.2.1 → stC k.1 j = stY Y j := fun j l => by
        obtain ⟨y, hy⟩ := Option.isSome_iff_exists.mp (List.all_eq_true.mp h6 j (List.mem_range.mpr l))
        have c := (runC_ok (z := ([], wkO)) List.nodup_nil hy).1
        have c : runW k.1 j (colF [], wkO) = some (col y.1, y.2) := c
        rw [hY.run j] at c
        unfold stC stY
        rw [hy, Option.some.inj c]
      refine ⟨Y, hY, r, ⟨h5, ?_⟩, fun q q1 ql dv per => ?_⟩
      · rw [← est _ (by omega), ← est _ (by omega)]
        exact h7
      · have z := List.all_eq_true.mp h8 q (List.mem_range.mpr ql)
        rw [Bool.or_eq_true, Bool.or_eq_true] at z
        rcases z with (z | z) | z
        · have := of_decide_eq_true z
          omega
        · rw [decide_eq_true dv] at z
          cases z
        · obtain ⟨i, hi, e⟩ := List.any_eq_true.mp z
          have hi := List.mem_range.mp hi
          have e := of_decide_eq_true e
          rw [est _ (by omega), est _ (by omega)] at e
          exact e (per _ (by omega))

/-! ### soonest -/
def spSoon (K : PySem.W.Frag) : Sp := fun vs H Q _ => ∃ (tv fv wv pv : V) (cc n : Nat) (B : Int) (T : List (List Ent)) (F : List Sq) (w : Wk) (p : Pap), vs = [tv, fv, wv, pv] ∧ Tp K H tv (tabD T) ∧ Tp K H fv (floorD F) ∧ Tp K H wv (wkD w) ∧ StandOk cc n B T F w ∧ B ≤ 1000000000 ∧ F.length ≤ 1000 ∧ Tp K H pv (papD p) ∧ PapOk p ∧ F.length + p.2.1 + p.2.2 ≤ 3000 ∧ HoldsAt T (colF F, w) p ∧
  ∀ (v : V) (H' : Hp) (f : Nat), f ≤ p.2.1 → (p.1 = .stops → f = p.2.1) → (∀ Y, p.1 ≠ .stops → Inf T (colF F, w) Y → (∀ i, f ≤ i → i < p.2.1 → stY Y i = stY Y (i + p.2.2)) ∧ (f = 0 ∨ stY Y (f - 1) ≠ stY Y (f - 1 + p.2.2))) → Tp K H' v (papD (p.1, f, p.2.2)) → Same H H' → Q v H'
theorem mono_soon {K : PySem.W.Frag} {σ : L2.St} {H : Hp} {Q Q' : Bool → Hp → Prop} (hq : ∀ b H1, Q b H1 → Q' b H1) (h : tAnd (tTest (tOp (rI0 fun i j => V.bl (decide (j < i))) (tVar 6) (tC (V.int 0)))) (tTest (tOp (rEqD K) (tOp (rIxL K) (tVar 5) (tOp (rI0 fun i j => V.int (i - j)) (tVar 6) (tC (V.int 1)))) (tOp (rIxL K) (tVar 5) (tOp (rI0 fun i j => V.int (i + j)) (tOp (rI0 fun i j => V.int (i - j)) (tVar 6) (tC (V.int 1))) (tFld K (tVar 4) "period"))))) σ H Q) : tAnd (tTest (tOp (rI0 fun i j => V.bl (decide (j < i))) (tVar 6) (tC (V.int 0)))) (tTest (tOp (rEqD K) (tOp (rIxL K) (tVar 5) (tOp (rI0 fun i j => V.int (i - j)) (tVar 6) (tC (V.int 1)))) (tOp (rIxL K) (tVar 5) (tOp (rI0 fun i j => V.int (i + j)) (tOp (rI0 fun i j => V.int (i - j)) (tVar 6) (tC (V.int 1))) (tFld K (tVar 4) "period"))))) σ H Q' := by
  obtain ⟨v6, e6, i1, j1, r1, r2, k, ek, h⟩ := h
  refine ⟨v6, e6, i1, j1, r1, r2, k, ek, ?_⟩
  cases k with
  | false => exact hq _ _ h
  | true =>
    obtain ⟨w5, g5, w6, g6, i2, j2, r3, r4, a1, x1, k1, y1, s1, s2, s3, s4, u5, f5, u6, f6, i3, j3, r5, r6, u4, f4, b1, b2, b3, b4, b5, q1, q2, q3, q4, q5, i4, j4, r7, r8, a2, x2, k2, y2, s5, s6, s7, s8, d1, d2, t2, t3, t4, t5, k3, t6, h⟩ := h
    exact ⟨w5, g5, w6, g6, i2, j2, r3, r4, a1, x1, k1, y1, s1, s2, s3, s4, u5, f5, u6, f6, i3, j3, r5, r6, u4, f4, b1, b2, b3, b4, b5, q1, q2, q3, q4, q5, i4, j4, r7, r8, a2, x2, k2, y2, s5, s6, s7, s8, d1, d2, t2, t3, t4, t5, k3, t6, hq _ _ h⟩
theorem next_seqN {t u : TS} {D : L2.Ends} {rt : VK} {bk ct : L2.St → Hp → Prop} {σ : L2.St} {H : Hp} (h : tSeq t u D σ H) : tNext { nx := tSeq t u D, rt := rt, bk := bk, ct := ct } σ H := h
theorem gname_seqN {i : Nat} {v : V} {t u : TS} {D : L2.Ends} {rt : VK} {bk ct : L2.St → Hp → Prop} {σ : L2.St} {H : Hp} (h : tSeq t u D (σ.set i (some v)) H) : gName i v σ H ({ nx := tSeq t u D, rt := rt, bk := bk, ct := ct } : L2.Ends).nx := h
section
variable {P : Program} {w : World} {K : PySem.W.Frag} {mg : Str → Option Value} {base : Heap}
local macro_rules | `(tactic| walk_at "cl") => `(tactic| first | (refine le_only ?_; omega) | (refine lt_only ?_; omega) | assumption)
theorem ok_soonest (T : Txt K mg) {C CC : Addr} (SC : ClsC K mg CC) (D : DefAt K mg "soonest" s_soonest ["table", "floor", "walker", "paper"]) (C_right_course : Cal P w K mg base CX0 "right_course" 7 ["table", "floor", "walker", "paper", "step", "place"] (spRight K CC C)) (C_stances : Cal P w K mg base CX0 "_stances" 1 ["told"] (spStances K)) : Cal P w K mg base CX0 "soonest" 8 ["table", "floor", "walker", "paper"] (spSoon K) := by
  refine D.cal sc_soonest (fun vs H Q E h => ?_) (fun f cdv A outer s H vs Q E hr h => ?_)
  · obtain ⟨tv, fv, wv, pv, cc, n, B, T, F, w, p, rfl, _⟩ := h
    rfl
  · obtain ⟨tv, fv, wv, ppv, cc, n, B, Tb, Fl, wk, p, rfl, ht, hf, hw, hs, lB, hl, hp, po, hlen, hh, q⟩ := h
    refine ⟨_, (pss_cons (ps_set (i := 4) sc_soonest.nd rfl (Or.inl rfl) (pe_own C_right_course hr (by first | decide | omega) (pa_cons (pv 0) (pa_cons (pv 1) (pa_cons (pv 2) (pa_cons (pv 3) (pa_cons pe_int (pa_cons (pe_tup (pa_cons pe_int (pa_cons pe_int pa_nil))) pa_nil))))))))
      (pss_cons (ps_if (pt_cmpR op_eq (k_fld (K := K) (pv 4) (by rfl)) pe_str (nomark _)) (pss_one (ps_ret (pv 3))) pss_nil)
      (pss_cons (ps_set (i := 5) sc_soonest.nd rfl (Or.inl rfl) (pe_own C_stances hr (by first | decide | omega) (pa_cons (k_fld (K := K) (pv 4) (by rfl)) pa_nil)))
      (pss_cons (ps_set (i := 6) sc_soonest.nd rfl (Or.inl rfl) (k_fld (K := K) (pv 4) (by rfl)))
      (pss_cons (ps_while PassesOwn.never (PW.pt (pw_and (pt_cmpR op_gt (pv 6) pe_int (nomark _)) (pw_and1 (pt_cmpR (k_eqD (K := K) hr.units) (pe_ix (k_ix_list (K := K)) (pv 5) (pe_op op_sub (pv 6) pe_int) (fun _ _ => rfl)) (pe_ix (k_ix_list (K := K)) (pv 5) (pe_op op_add (pe_op op_sub (pv 6) pe_int) (k_fld (K := K) (pv 4) (by rfl))) (fun _ _ => rfl)) (nomark _))))) (pss_one (ps_aug (i := 6) sc_soonest.nd rfl (Or.inl rfl) pe_int ip_sub)))
      (pss_one (ps_ret (pe_tup (pa_cons (k_fld (K := K) (pv 4) (by rfl)) (pa_cons (pv 6) (pa_cons (k_fld (K := K) (pv 4) (by rfl)) pa_nil))))))))))), ?_⟩
    have cl := SC.cl
    walk_at "st"
    intro pp npp
    have s1 : Same H (upd H pp (.tup [.int 0, .int 0])) := Same.new npp
    have hpp : Tp K (upd H pp (.tup [.int 0, .int 0])) (.ref pp) (.tuple [.int ((0, 0) : Pt).1, .int ((0, 0) : Pt).2]) := tp_newF (K := K) npp (.cons (.int 0) (.cons (.int 0) .nil))
    generalize hH1 : upd H pp (.tup [.int 0, .int 0]) = H1 at *
    have ht1 := Tp.mono (Same.tk s1) _ _ ht
    have hf1 := Tp.mono (Same.tk s1) _ _ hf
    have hw1 := Tp.mono (Same.tk s1) _ _ hw
    have hp1 := Tp.mono (Same.tk s1) _ _ hp
    have ib : InB FarI ((0, 0) : Pt) := by
      unfold InB
      decide
    have z0 : (0 : Int) ≤ 0 := Int.le_refl 0
    have zF : (0 : Int) ≤ FarI := by decide
    walk_at "st"
    intro c a D m1 m2 w1 w2 H2 hC s2
    obtain ⟨dx6, D0, D1, L2, L3, sv, ev, mv, us2, us3, hc, hsv, hev, hmv, hD0, hD1, hL2, hus2, lus2, hL3, hus3, lus3⟩ := id hC.ob
    have n1 := SC.n1
    have n2 := SC.n2
    have n3 := SC.n3
    have n10 := SC.n10
    have g1 := clk_kind (kd := .str p.1.nm) (f := p.2.1) (p := p.2.2) (a := a) (D0 := D0) (sv := sv) (D1 := D1) (L2 := L2) (ev := ev) (L3 := L3) (mv := mv)
    have g2 := clk_first (kd := .str p.1.nm) (f := p.2.1) (p := p.2.2) (a := a) (D0 := D0) (sv := sv) (D1 := D1) (L2 := L2) (ev := ev) (L3 := L3) (mv := mv)
    have g3 := clk_period (kd := .str p.1.nm) (f := p.2.1) (p := p.2.2) (a := a) (D0 := D0) (sv := sv) (D1 := D1) (L2 := L2) (ev := ev) (L3 := L3) (mv := mv)
    have g10 := clk_steps (kd := .str p.1.nm) (f := p.2.1) (p := p.2.2) (a := a) (D0 := D0) (sv := sv) (D1 := D1) (L2 := L2) (ev := ev) (L3 := L3) (mv := mv)
    have s02 := Same.trans s1 s2
    have hp2 := Tp.mono (Same.tk s02) _ _ hp
    by_cases hk : p.1 = .stops
    · rw [show p.1.nm = ("stops" : Str) by rw [hk]; rfl] at hc g1
      walk_at "st"
      refine q ppv H2 p.2.1 (Nat.le_refl _) (fun _ => rfl) (fun _ n _ => absurd hk n) ?_ s02
      exact hp2
    · have nst : ¬ (V.str p.1.nm = V.str ("stops" : Str)) := by
        intro e
        injection e with e
        obtain ⟨k, f, per⟩ := p
        cases k with
        | stops => exact hk rfl
        | round => exact absurd e (show ¬ PK.nm .round = ("stops" : Str) by decide +kernel)
        | street => exact absurd e (show ¬ PK.nm .street = ("stops" : Str) by decide +kernel)
      have hkd := nst
      clear nst
      walk_at "st"
      refine ite2 (fun e => absurd (of_decide_eq_true e) (by first | exact hkd | (intro e2; exact hkd (congrArg V.str e2)))) (fun _ => ?_)
      obtain ⟨L, hL⟩ : ∃ L, L = told3 Tb (colF Fl, wk) p.2.1 ++ told3 Tb (col m1, w1) p.2.2 := ⟨_, rfl⟩
      have e1 := hC.e1
      have e2 := hC.e2
      have e1 : Ends Tb (colF Fl, wk) p.2.1 p.2.1 (col m1, w1) := e1
      have elL : L = told3 Tb (colF Fl, wk) (p.2.1 + p.2.2) := by rw [hL, ← told3_app e1.run]
      have hT3 : TpAll K H2 us3 (L.map tl3D) := by
        rw [hL, List.map_append, told3_map, told3_map]
        exact hus3
      have lL : L.length ≤ 3000 := by
        rw [elL]
        have := told3_len (T := Tb) (z := (colF Fl, wk)) (p.2.1 + p.2.2)
        omega
      refine next_seqN ?_
      walk_at "st"
      intro S ws H3 nS hS hws s3
      have lws : ws.length = L.length := by rw [TpAll.length hws, List.length_map, List.length_map]
      have lL2 : L.length = p.2.1 + p.2.2 := by rw [elL, told3_full (z1 := (col m2, w2)) (by rw [runW_add, e1.run]; exact e2.run)]
      have hc3 := s3 _ _ hc
      have p1 := po.p1 hk
      clear hsv hev hmv hD0 hD1 hL2 hus2 hL3 hus3 hT3 hC
      walk_at "st"
      refine gname_seqN ?_
      rw [show _root_.L2.start ["table", "floor", "walker", "paper", "course", "stances", "first"] [tv, fv, wv, ppv] = [some tv, some fv, some wv, some ppv, none, none, none] from rfl]
      simp only [List.set_cons_zero, List.set_cons_succ]
      obtain ⟨ls, els⟩ : ∃ ls, ls = L.map stI := ⟨_, rfl⟩
      rw [← els] at hws
      have lls : ls.length = p.2.1 + p.2.2 := by rw [els, List.length_map]; exact lL2
      have hSS := SqL.of (K := K) hS
      have fin : ∀ f : Nat, f ≤ p.2.1 → (∀ k, f ≤ k → k < p.2.1 → ls[k]? = ls[k + p.2.2]?) → (f = 0 ∨ ls[f - 1]? ≠ ls[f - 1 + p.2.2]?) → ∀ r, H3 r = none → Q (.ref r) (upd H3 r (.tup [.str p.1.nm, .int (f : Int), .int (p.2.2 : Int)])) := fun f lf ag en r nr => by
        have lsY : ∀ Y, Inf Tb (colF Fl, wk) Y → ∀ i, i < p.2.1 + p.2.2 → ls[i]? = some (stY Y i) := fun Y inf i l => by
          obtain ⟨e, x1, x2, _⟩ := (inf.told (p.2.1 + p.2.2)).2 i l
          rw [els, elL, List.getElem?_map, x1, Option.map_some, x2]
        refine q (.ref r) _ f lf (fun z => absurd z hk) (fun Y _ inf => ⟨fun i l1 l2 => ?_, ?_⟩) ?_ (Same.trans s02 (Same.trans s3 (Same.new nr)))
        · have z := ag i l1 l2
          rw [lsY Y inf i (by omega), lsY Y inf (i + p.2.2) (by omega)] at z
          exact Option.some.inj z
        · rcases en with en | en
          · exact .inl en
          · by_cases f0 : f = 0
            · exact .inl f0
            · refine .inr fun z => en ?_
              rw [lsY Y inf (f - 1) (by omega), lsY Y inf (f - 1 + p.2.2) (by omega), z]
        · have tp : Tp K (upd H3 r (.tup [.str p.1.nm, .int (f : Int), .int (p.2.2 : Int)])) (.ref r) (.tuple [.str p.1.nm, .int (f : Int), .int (p.2.2 : Int)]) := .tup (SqT.of upd_same) (.cons (.str _) (.cons (.int _) (.cons (.int _) .nil)))
          obtain ⟨k, f', per⟩ := p
          cases k with
          | stops => exact absurd rfl hk
          | round => exact tp
          | street => exact tp
      refine while_by (fun σ H' => ∃ f : Nat, σ = [some tv, some fv, some wv, some ppv, some (.ref c), some (.ref S), some (.int (f : Int))] ∧ H' = H3 ∧ f ≤ p.2.1 ∧ ∀ k, f ≤ k → k < p.2.1 → ls[k]? = ls[k + p.2.2]?) (fun (σ : _root_.L2.St) (_ : Hp) => match σ with | [_, _, _, _, _, _, some (.int m)] => m.toNat | _ => 0) ?_ ?_ ?_
      · exact ⟨p.2.1, rfl, rfl, Nat.le_refl _, fun k h1 h2 => by omega⟩
      · rintro σ H' ⟨f, rfl, rfl, lf, ag⟩
        walk_at "st"
        refine ite2 (fun c1 => ?_) (fun c1 => ?_)
        · have c1 : (0 : Int) < (f : Int) := of_decide_eq_true c1
          have l1 : f - 1 < ls.length := by omega
          have l2 : f - 1 + p.2.2 < ls.length := by omega
          obtain ⟨u1, eu1, hu1⟩ := hws.get (i := f - 1) (d := itD ls[f - 1]) (by rw [List.getElem?_map, List.getElem?_eq_getElem l1]; rfl)
          obtain ⟨u2, eu2, hu2⟩ := hws.get (i := f - 1 + p.2.2) (d := itD ls[f - 1 + p.2.2]) (by rw [List.getElem?_map, List.getElem?_eq_getElem l2]; rfl)
          have at1 : atI ws ((f : Int) - 1) = some u1 := by
            rw [show (f : Int) - 1 = ((f - 1 : Nat) : Int) by omega]
            exact atI_nat eu1
          have at2 : atI ws ((f : Int) - 1 + (p.2.2 : Int)) = some u2 := by
            rw [show (f : Int) - 1 + (p.2.2 : Int) = ((f - 1 + p.2.2 : Nat) : Int) by omega]
            exact atI_nat eu2
          have d1 := Tp.dp _ _ hu1
          have d2 := Tp.dp _ _ hu2
          have sh1 : SeqAt.shaped (itD ls[f - 1]) = true := shpI _
          have sh2 : SeqAt.shaped (itD ls[f - 1 + p.2.2]) = true := shpI _
          have eq12 : PyData.eqv (itD ls[f - 1]) (itD ls[f - 1 + p.2.2]) = decide (ls[f - 1] = ls[f - 1 + p.2.2]) := eqvT _ _
          walk_at "st"
          refine ite2 (fun c2 => ?_) (fun c2 => ?_)
          · have c2 : ls[f - 1] = ls[f - 1 + p.2.2] := of_decide_eq_true (eq12 ▸ c2)
            walk_at "st"
            refine ⟨⟨f - 1, ?_, rfl, by omega, fun k h1 h2 => ?_⟩, ?_⟩
            · rw [show ((f - 1 : Nat) : Int) = (f : Int) - 1 by omega]
              rfl
            · rcases Nat.lt_or_ge k f with g | g
              · obtain rfl : k = f - 1 := by omega
                rw [List.getElem?_eq_getElem l1, List.getElem?_eq_getElem l2, c2]
              · exact ag k g h2
            · show ((f : Int) - 1).toNat < (f : Int).toNat
              omega
          · have c2 : ls[f - 1] ≠ ls[f - 1 + p.2.2] := fun z => c2 (eq12.trans (decide_eq_true z))
            walk_at "st"
            intro r nr
            exact fin f lf ag (.inr fun z => by
              rw [List.getElem?_eq_getElem l1, List.getElem?_eq_getElem l2] at z
              exact c2 (Option.some.inj z)) r nr
        · have c1 : ¬ (0 : Int) < (f : Int) := fun z => c1 (decide_eq_true z)
          walk_at "st"
          intro r nr
          exact fin f lf ag (.inl (by omega)) r nr
      · intro σ H Q Q' hq h
        exact mono_soon hq h
end

/-! ### what the law keeps: the states of its own walk, which stays where it has stopped -/
def itS (T : List (List Ent)) (z : WSt) : Nat → WSt
  | 0 => z
  | k + 1 => (stepW T (itS T z k)).getD (itS T z k)
/-- how many steps the k-th look did -/
def doneS (T : List (List Ent)) (z : WSt) : Nat → Nat
  | 0 => 0
  | k + 1 => if stepW T (itS T z k) = none then 0 else 1
section
variable {T : List (List Ent)} {z0 : WSt}
theorem itS_fit {c n : Nat} {B : Int} (ok : TabOk c n T) (g : Fit c n B z0) : ∀ k : Nat, Fit c n (B + k) (itS T z0 k)
  | 0 => by
    rw [show B + ((0 : Nat) : Int) = B by omega]
    exact g
  | k + 1 => by
    have ih := itS_fit ok g k
    show Fit c n _ ((stepW T (itS T z0 k)).getD (itS T z0 k))
    rw [show B + ((k + 1 : Nat) : Int) = B + (k : Int) + 1 by omega]
    cases e : stepW T (itS T z0 k) with
    | none => exact ⟨ih.cols, fun p hp => (ih.near p hp).mono (by omega), ih.wk.mono (by omega), ih.hd, ih.st⟩
    | some y => exact ih.step ok e
theorem itS_run {N : Nat} (h : ∀ k, k < N → stepW T (itS T z0 k) ≠ none) : ∀ k, k ≤ N → runW T k z0 = some (itS T z0 k)
  | 0, _ => rfl
  | k + 1, l => by
    rw [run_snoc (itS_run h k (by omega))]
    show _ = some ((stepW T (itS T z0 k)).getD (itS T z0 k))
    cases e : stepW T (itS T z0 k) with
    | none => exact absurd e (h k (by omega))
    | some y => rfl
theorem itS_end {y : WSt} {i N : Nat} (he : Ends T z0 N i y) : (∃ k, k ≤ N ∧ stepW T (itS T z0 k) = none) → stepW T y = none := by
  rintro ⟨k, kN, hk⟩
  obtain ⟨d, dk, hd, hl⟩ : ∃ d, d ≤ k ∧ stepW T (itS T z0 d) = none ∧ ∀ j, j < d → stepW T (itS T z0 j) ≠ none := by
    induction k using Nat.strongRecOn with
    | ind k ih =>
      by_cases c : ∃ j, j < k ∧ stepW T (itS T z0 j) = none
      · obtain ⟨j, jk, hj⟩ := c
        obtain ⟨d, d1, d2⟩ := ih j jk (by omega) hj
        exact ⟨d, by omega, d2⟩
      · exact ⟨k, Nat.le_refl _, hk, fun j l e => c ⟨j, l, e⟩⟩
  have run := itS_run (N := d) hl d (Nat.le_refl _)
  have e2 : Ends T z0 N d (itS T z0 d) := ⟨run, by omega, .inr hd⟩
  obtain ⟨_, e⟩ := he.uniq e2
  rw [e]
  exact hd
theorem one_end {z y : WSt} {i : Nat} (h : Ends T z 1 i y) : y = (stepW T z).getD z ∧ i = if stepW T z = none then 0 else 1 := by
  have l := h.le
  rcases Nat.eq_zero_or_pos i with e | e
  · subst e
    have r := h.run
    obtain rfl := Option.some.inj (show some z = some y from r)
    rcases h.stop with s | s
    · exact absurd s (by decide)
    · rw [s, if_pos rfl]
      exact ⟨rfl, rfl⟩
  · obtain rfl : i = 1 := by omega
    have r : stepW T z = some y := h.run
    rw [r]
    refine ⟨rfl, ?_⟩
    rw [if_neg (fun z => by cases z)]
theorem floor_more {f : Pt → Int} {F G : List Sq} {p : Pt} {c : Int} (h : FloorOf f F) (g : FloorOf (dab f p c) G) : G.length ≤ F.length + 1 := by
  have nd : (G.map Sq.pt).Nodup := (List.pairwise_map.mpr (g.asc.imp fun {a b} l e => by
    unfold ltP at l
    rw [e] at l
    omega))
  have sub : ∀ x ∈ G.map Sq.pt, x ∈ p :: F.map Sq.pt := fun x hx => by
    obtain ⟨s, hs, rfl⟩ := List.mem_map.mp hx
    obtain ⟨e1, e2⟩ := (g.mem s).mp hs
    unfold dab at e1
    by_cases z : p = s.pt
    · rw [z]
      exact List.mem_cons_self
    · refine List.mem_cons_of_mem _ (List.mem_map.mpr ⟨s, (h.mem s).mpr ⟨?_, e2⟩, rfl⟩)
      rw [e1]
      first | exact if_neg z | exact if_neg fun e => z e.symm
  have l := nodup_sub nd sub
  rw [List.length_map, List.length_cons, List.length_map] at l
  exact l
theorem step_floor {z : WSt} {F G : List Sq} (h : FloorOf z.1 F) (g : FloorOf ((stepW T z).getD z).1 G) : G.length ≤ F.length + 1 := by
  cases e : entAt T z.2.2.2.2 (z.1 (wPt z.2)) with
  | none =>
    rw [step_none e] at g
    rw [h.uniq g]
    omega
  | some a =>
    rw [step_some e] at g
    exact floor_more h g
end
theorem KnAt.no_round {k : Kn} {Y : Nat → WSt} (h : KnAt k Y) (hk : k ∈ knL) (p1 : 1 ≤ k.2.2.1) {f q : Nat} (q1 : 1 ≤ q) : ¬ HoldsAt k.1 (colF [], wkO) (.round, f, q) := fun r => by
  have e := h.inf.roundAt.mp r
  obtain ⟨c, n, n1, n2, c2, c3, tab⟩ := kn_ok k hk
  have g0 : Fit c n 3 (colF [], wkO) := by
    refine ⟨fun p => ⟨by show (0 : Int) ≤ 0; decide, by show (0 : Int) < c; omega⟩, fun p hp => absurd rfl hp, ?_, ?_, ?_⟩
    · show (-3 ≤ (0 : Int) ∧ (0 : Int) ≤ 3) ∧ (-3 ≤ (0 : Int) ∧ (0 : Int) ≤ 3)
      decide
    · show (0 : Int) ≤ 0 ∧ (0 : Int) < 4
      decide
    · show (0 : Int) ≤ 0 ∧ (0 : Int) < n
      omega
  obtain ⟨per, ne⟩ := (h.inf.streetAt g0 p1).mp h.right
  have rep : ∀ t i, f ≤ i → Y (i + t * q) = Y i := fun t => by
    induction t with
    | zero => intro i _; rw [Nat.zero_mul, Nat.add_zero]
    | succ t ih =>
      intro i l
      rw [Nat.succ_mul, ← Nat.add_assoc]
      obtain ⟨d, hd⟩ : ∃ d, i + t * q = f + d := ⟨i + t * q - f, by omega⟩
      rw [hd, h.inf.rep e d, ← hd]
      exact ih i l
  have far : ∀ t i, k.2.1 ≤ i → (Y (i + t * k.2.2.1)).2 = mvW (Y i).2 (kmv (mvOf (Y k.2.1) (Y (k.2.1 + k.2.2.1))) t) := fun t => by
    induction t with
    | zero =>
      intro i _
      rw [Nat.zero_mul, Nat.add_zero]
      generalize mvOf (Y k.2.1) (Y (k.2.1 + k.2.2.1)) = m
      show (Y i).2 = ((Y i).2.1 + ((0 : Nat) : Int) * m.1, (Y i).2.2.1 + ((0 : Nat) : Int) * m.2, (Y i).2.2.2)
      rw [show ((0 : Nat) : Int) = 0 from rfl, Int.zero_mul, Int.zero_mul, Int.add_zero, Int.add_zero]
    | succ t ih =>
      intro i l
      obtain ⟨d, hd⟩ : ∃ d, i + t * k.2.2.1 = k.2.1 + d := ⟨i + t * k.2.2.1 - k.2.1, by omega⟩
      have s := h.inf.shift (N := k.2.1 + d + 1) (fun i l _ => per i l) (by omega) d (by omega)
      rw [Nat.succ_mul, ← Nat.add_assoc, hd, s, ← hd, ih i l, kmv_succ]
  have a := far q (f + k.2.1) (by omega)
  have b := rep k.2.2.1 (f + k.2.1) (by omega)
  rw [Nat.mul_comm k.2.2.1 q] at b
  rw [b] at a
  generalize mvOf (Y k.2.1) (Y (k.2.1 + k.2.2.1)) = m at a ne
  have a1 : (Y (f + k.2.1)).2.1 = (Y (f + k.2.1)).2.1 + (q : Int) * m.1 := congrArg (fun u : Wk => u.1) a
  have a2 : (Y (f + k.2.1)).2.2.1 = (Y (f + k.2.1)).2.2.1 + (q : Int) * m.2 := congrArg (fun u : Wk => u.2.1) a
  have z : ∀ x : Int, (q : Int) * x = 0 → x = 0 := fun x hx => by
    rcases Int.mul_eq_zero.mp hx with g | g
    · omega
    · exact g
  exact ne (Prod.ext (z _ (by omega)) (z _ (by omega)))
theorem kn_fit {k : Kn} (hk : k ∈ knL) : ∃ c n, Fit c n 3 (colF [], wkO) ∧ TabOk c n k.1 := by
  obtain ⟨c, n, n1, n2, c2, c3, tab⟩ := kn_ok k hk
  refine ⟨c, n, ⟨fun p => ⟨by show (0 : Int) ≤ 0; decide, by show (0 : Int) < c; omega⟩, fun p hp => absurd rfl hp, ?_, ?_, ?_⟩, tab⟩
  · show (-3 ≤ (0 : Int) ∧ (0 : Int) ≤ 3) ∧ (-3 ≤ (0 : Int) ∧ (0 : Int) ≤ 3)
    decide
  · show (0 : Int) ≤ 0 ∧ (0 : Int) < 4
    decide
  · show (0 : Int) ≤ 0 ∧ (0 : Int) < n
    omega
theorem kn_small : ∀ k ∈ knL, k.2.1 ≤ 58 ∧ 1 ≤ k.2.2.1 ∧ k.2.2.1 ≤ 18 := by
  intro k hk
  rcases List.mem_cons.mp hk with rfl | hk
  · decide
  rcases List.mem_cons.mp hk with rfl | hk
  · decide
  rcases List.mem_cons.mp hk with rfl | hk
  · decide
  rcases List.mem_cons.mp hk with rfl | hk
  · decide
  rw [List.mem_singleton.mp hk]
  decide
/-- on a blank floor a street is found for each of the known tables -/
theorem kn_found {k : Kn} {Y : Nat → WSt} (h : KnAt k Y) (hk : k ∈ knL) {steps : Nat} {most : Int} {o : Option Pap} (l1 : k.2.1 + 2 * k.2.2.1 ≤ steps) (l2 : steps ≤ 3000) (lm : (k.2.2.1 : Int) ≤ most) (fo : FoundAt k.1 (colF [], wkO) steps most o) : ∃ p, o = some p ∧ p.1 = .street := by
  obtain ⟨s1, s2, s3⟩ := kn_small k hk
  obtain ⟨c, n, g0, tab⟩ := kn_fit hk
  have fo' := fo
  obtain ⟨i, z, he, fo⟩ := fo
  have hz : stepW k.1 z ≠ none := fun e => by
    have r := run_snoc he.run
    rw [e, h.inf.run] at r
    cases r
  have ei : i = steps := by
    rcases he.stop with g | g
    · exact g
    · exact absurd g hz
  subst ei
  rcases fo with ⟨e, _⟩ | ⟨_, as, zs, fo⟩
  · exact absurd e hz
  · obtain ⟨per, ne⟩ := (h.inf.streetAt g0 s2).mp h.right
    obtain ⟨x, hx, rx⟩ := h.inf.found g0 s2 per h.least l1 (by omega) zs (most := most) (.inr lm)
    obtain ⟨p, rfl⟩ := fo.some x hx rx
    refine ⟨p, rfl, ?_⟩
    obtain ⟨po, r, _⟩ := FoundAt.ok fo' l2
    obtain ⟨kd, f, q⟩ := p
    cases kd with
    | street => rfl
    | round => exact absurd r (h.no_round hk s2 (po.p1 (by intro e; cases e)))
    | stops =>
      exfalso
      obtain ⟨z1, z2, e1, e2, _, _, e⟩ := r
      have e1 : Ends k.1 (colF [], wkO) f f z1 := e1
      have e2 : Ends k.1 z1 q q z2 := e2
      have e : stepW k.1 z2 = none := e
      have r2 : runW k.1 (f + q) (colF [], wkO) = some z2 := by
        rw [runW_add, e1.run]
        exact e2.run
      have r3 := run_snoc r2
      rw [e, h.inf.run] at r3
      cases r3
/-- the soonest beginning of the known street -/
theorem kn_first {k : Kn} {Y : Nat → WSt} (h : KnAt k Y) (hk : k ∈ knL) {f f0 : Nat} (r : HoldsAt k.1 (colF [], wkO) (.street, f0, k.2.2.1)) (l : f ≤ f0) (a : ∀ i, f ≤ i → i < f0 → stY Y i = stY Y (i + k.2.2.1)) (b : f = 0 ∨ stY Y (f - 1) ≠ stY Y (f - 1 + k.2.2.1)) : f = k.2.1 := by
  obtain ⟨s1, s2, s3⟩ := kn_small k hk
  obtain ⟨c, n, g0, tab⟩ := kn_fit hk
  obtain ⟨per, _⟩ := (h.inf.streetAt g0 s2).mp h.right
  obtain ⟨perF, _⟩ := (h.inf.streetAt g0 s2).mp (h.inf.sooner g0 (by intro e; cases e) s2 l r a)
  rcases Nat.lt_trichotomy f k.2.1 with g | g | g
  · exact absurd (perF (k.2.1 - 1) (by omega)) h.begins.2
  · exact g
  · rcases b with b | b
    · omega
    · exact absurd (per (f - 1) (by omega)) b
/-- a walk that comes round in time is found -/
theorem round_found {T : List (List Ent)} {z0 : WSt} {c n : Nat} (g0 : Fit c n 3 z0) {N tail p : Nat} (hr : ∀ k, k ≤ N → runW T k z0 = some (itS T z0 k)) (e : itS T z0 (tail + p) = itS T z0 tail) (p1 : 1 ≤ p) (lN : tail + p ≤ N) (first : ∀ i j, i < j → j < tail + p → itS T z0 i ≠ itS T z0 j) (l1 : 4 * tail ≤ N) (l2 : 4 * p ≤ N) (l3 : N ≤ 3000)
    {most : Int} {o : Option Pap} (fo : FoundAt T z0 N most o) : ∃ x, o = some x := by
  have rd : HoldsAt T z0 (.round, tail, p) := by
    have h2 := hr (tail + p) lN
    rw [runW_add, hr tail (by omega)] at h2
    exact ⟨itS T z0 tail, itS T z0 (tail + p), ⟨hr tail (by omega), Nat.le_refl _, .inl rfl⟩, ⟨h2, Nat.le_refl _, .inl rfl⟩, rfl, rfl, e⟩
  obtain ⟨Y, h⟩ := inf_round p1 rd
  have eY : ∀ k, k ≤ N → Y k = itS T z0 k := fun k l => by
    have a := h.run k
    rw [hr k l] at a
    exact (Option.some.inj a).symm
  have er := h.roundAt.mp rd
  obtain ⟨i, z, he, fo⟩ := fo
  have hz : stepW T z ≠ none := fun q => by
    have r := run_snoc he.run
    rw [q, h.run] at r
    cases r
  have ei : i = N := by
    rcases he.stop with g | g
    · exact g
    · exact absurd g hz
  subst ei
  rcases fo with ⟨q, rfl⟩ | ⟨_, as, zs, fo⟩
  · exact ⟨_, rfl⟩
  · have m0 : mvOf (Y tail) (Y (tail + p)) = (0, 0) := by
      unfold mvOf
      rw [er]
      exact Prod.ext (Int.sub_self _) (Int.sub_self _)
    obtain ⟨x, hx, rx⟩ := h.found g0 p1 (h.rep_st er) (fun q q1 ql dv per => by
      have far : ∀ t, (Y (tail + t * q)).2 = mvW (Y tail).2 (kmv (mvOf (Y tail) (Y (tail + q))) t) := fun t => by
        induction t with
        | zero =>
          rw [Nat.zero_mul, Nat.add_zero]
          generalize mvOf (Y tail) (Y (tail + q)) = m
          show (Y tail).2 = ((Y tail).2.1 + ((0 : Nat) : Int) * m.1, (Y tail).2.2.1 + ((0 : Nat) : Int) * m.2, (Y tail).2.2.2)
          rw [show ((0 : Nat) : Int) = 0 from rfl, Int.zero_mul, Int.zero_mul, Int.add_zero, Int.add_zero]
        | succ t ih =>
          have s := h.shift (N := tail + t * q + 1) (fun i l _ => per i l) (by omega) (t * q) (by omega)
          rw [Nat.succ_mul, ← Nat.add_assoc, s, ih, kmv_succ]
      obtain ⟨r, hr'⟩ : ∃ r, p = r * q := ⟨p / q, by have := Nat.div_add_mod p q; rw [Nat.mul_comm]; omega⟩
      have a := far r
      rw [← hr', er] at a
      have r1 : 1 ≤ r := by
        rcases Nat.eq_zero_or_pos r with g | g
        · rw [g, Nat.zero_mul] at hr'
          omega
        · exact g
      have z : ∀ x : Int, (r : Int) * x = 0 → x = 0 := fun x hx => by
        rcases Int.mul_eq_zero.mp hx with g | g
        · omega
        · exact g
      have mq : mvOf (Y tail) (Y (tail + q)) = (0, 0) := by
        generalize mvOf (Y tail) (Y (tail + q)) = m at a
        have a1 : (Y tail).2.1 = (Y tail).2.1 + (r : Int) * m.1 := congrArg (fun u : Wk => u.1) a
        have a2 : (Y tail).2.2.1 = (Y tail).2.2.1 + (r : Int) * m.2 := congrArg (fun u : Wk => u.2.1) a
        exact Prod.ext (z _ (by omega)) (z _ (by omega))
      have eq_ := h.round q1 (fun i l _ => per i l) mq
      rw [eY _ (by omega), eY _ (by omega)] at eq_
      exact first tail (tail + q) (by omega) (by omega) eq_.symm) (by omega) (by omega) zs (most := most) (.inl m0)
    exact fo.some x hx rx
/-! equal stands, as the law compares them -/
theorem eqv_sqs : ∀ (F G : List Sq), PyData.eqvAll (F.map sqD) (G.map sqD) = decide (F = G)
  | [], [] => by simp [PyData.eqvAll]
  | [], _ :: _ => by simp [PyData.eqvAll]
  | _ :: _, [] => by simp [PyData.eqvAll]
  | a :: F, b :: G => by
    have h1 : PyData.eqv (sqD a) (sqD b) = decide (a = b) := by
      have z := eqvT [a.1, a.2.1, a.2.2] [b.1, b.2.1, b.2.2]
      rw [show PyData.eqv (sqD a) (sqD b) = decide ([a.1, a.2.1, a.2.2] = [b.1, b.2.1, b.2.2]) from z]
      obtain ⟨a1, a2, a3⟩ := a
      obtain ⟨b1, b2, b3⟩ := b
      simp
    rw [List.map_cons, List.map_cons]
    simp only [PyData.eqvAll, h1, eqv_sqs F G]
    simp
theorem eqv_step (F G : List Sq) (w v : Wk) : PyData.eqv (stepD F w) (stepD G v) = decide (F = G ∧ w = v) := by
  have h1 : PyData.eqv (floorD F) (floorD G) = decide (F = G) := by
    rw [← eqv_sqs]
    simp [floorD, PyData.eqv]
  have h2 : PyData.eqv (wkD w) (wkD v) = decide (w = v) := by
    have z := eqvT [w.1, w.2.1, w.2.2.1, w.2.2.2] [v.1, v.2.1, v.2.2.1, v.2.2.2]
    rw [show PyData.eqv (wkD w) (wkD v) = decide ([w.1, w.2.1, w.2.2.1, w.2.2.2] = [v.1, v.2.1, v.2.2.1, v.2.2.2]) from z]
    obtain ⟨a1, a2, a3, a4⟩ := w
    obtain ⟨b1, b2, b3, b4⟩ := v
    simp
  simp only [stepD, PyData.eqv, PyData.eqvAll, h1, h2, Bool.and_true]
  simp

/-! ### the law -/
def spLaw (K : PySem.W.Frag) : Sp := fun vs H Q _ => ∃ (a : Addr) (ns : List Int), vs = [.ref a] ∧ Scr K H a ns ∧ ∀ H', Q (.bl true) H'
theorem next_seq {t u : TS} {D : L2.Ends} {rt : VK} {bk ct : L2.St → Hp → Prop} {σ : L2.St} {H : Hp} (h : tSeq t u D σ H) : tNext { nx := tSeq t u D, rt := rt, bk := bk, ct := ct } σ H := h
theorem gname_seq {i : Nat} {v : V} {t u : TS} {D : L2.Ends} {rt : VK} {bk ct : L2.St → Hp → Prop} {σ : L2.St} {H : Hp} (h : tSeq t u D (σ.set i (some v)) H) : gName i v σ H ({ nx := tSeq t u D, rt := rt, bk := bk, ct := ct } : L2.Ends).nx := h
theorem gname_of {i : Nat} {v : V} {σ : L2.St} {H : Hp} {k : L2.St → Hp → Prop} (h : k (σ.set i (some v)) H) : gName i v σ H k := h
theorem nx_seq {t u : TS} {D : L2.Ends} {rt : VK} {bk ct : L2.St → Hp → Prop} {σ : L2.St} {H : Hp} (h : tSeq t u D σ H) : ({ nx := tSeq t u D, rt := rt, bk := bk, ct := ct } : L2.Ends).nx σ H := h
theorem seq_assoc {t u v : TS} {D : L2.Ends} {σ : L2.St} {H : Hp} (h : tSeq (tSeq t u) v D σ H) : tSeq t (tSeq u v) D σ H := h
theorem nx_of {D : L2.Ends} {σ : L2.St} {H : Hp} (h : D.nx σ H) : tNext D σ H := h
/-- as seq_cut, what comes behind being told by its promise alone -/
theorem seq_cutO {t u : TS} {D : L2.Ends} {σ : L2.St} {H : Hp} (Pm : L2.St → Hp → Prop) (h2 : ∀ σ H, Pm σ H → u D σ H) (h1 : ∀ R : L2.St → Hp → Prop, (∀ σ H, Pm σ H → R σ H) → t { D with nx := R } σ H) : tSeq t u D σ H := h1 _ h2
theorem seq_par1 {i j : Nat} {ta tb : TE} {u : TS} {D : L2.Ends} {σ : L2.St} {H : Hp} (h : ta σ H fun x H1 => tb σ H1 fun y H2 => ∃ v w, [x, y] = [v, w] ∧ u D ((σ.set i (some v)).set j (some w)) H2) : tSeq (tPar i j (tCons ta (tCons tb tNil))) u D σ H := h
theorem par_of {i j : Nat} {ta tb : TE} {D : L2.Ends} {σ : L2.St} {H : Hp} (h : ta σ H fun x H1 => tb σ H1 fun y H2 => ∃ v w, [x, y] = [v, w] ∧ D.nx ((σ.set i (some v)).set j (some w)) H2) : tPar i j (tCons ta (tCons tb tNil)) D σ H := h
theorem hu65 {A : Around} {k : Nat} (hr : Room k A) : A.units + 65 < cLine := by
  have := hr.un
  omega
theorem k_indexD {K : PySem.W.Frag} {X : Cx} (hu : X.A.units + 65 < cLine) (hK : X.K = K := by rfl) : MtR X "list.index" (rIndexD K) := hK ▸ mt_indexD hu
theorem k_inD {K : PySem.W.Frag} {X : Cx} (hu : X.A.units + 65 < cLine) (hK : X.K = K := by rfl) : OpR X (compareOp .In) (rInD K) := hK ▸ op_inD hu
theorem flat_ints (n : Nat) (ks : List Int) : flatT (n + 2) (.tuple (ks.map PyData.int)) := fun d hd => by
  obtain ⟨k, _, rfl⟩ := List.mem_map.mp hd
  trivial
theorem flat_floor (n : Nat) (F : List Sq) : flatT (n + 3) (floorD F) := fun d hd => by
  obtain ⟨s, _, rfl⟩ := List.mem_map.mp hd
  exact flat_ints n [s.1, s.2.1, s.2.2]
theorem shp_floor (F : List Sq) : SeqAt.shaped (floorD F) = true := ((flat_floor 0 F).shp (by decide)).1
theorem eqv_nilF (F : List Sq) : PyData.eqv (floorD F) (.tuple []) = decide (F = []) := by
  cases F with
  | nil => simp [floorD, PyData.eqv, PyData.eqvAll]
  | cons a F => simp [floorD, PyData.eqv, PyData.eqvAll]
theorem pap_ref {K : PySem.W.Frag} {H : Hp} {v : V} {p : Pap} (h : Tp K H v (papD p)) : ∃ a, v = .ref a := by
  obtain ⟨kd, f, per⟩ := p
  cases kd with
  | stops =>
    obtain ⟨a, _, e, _⟩ := (show Tp K H v (.tuple [.str (PK.nm .stops), .int f]) from h).tupI
    exact ⟨a, e⟩
  | round =>
    obtain ⟨a, _, e, _⟩ := (show Tp K H v (.tuple [.str (PK.nm .round), .int f, .int per]) from h).tupI
    exact ⟨a, e⟩
  | street =>
    obtain ⟨a, _, e, _⟩ := (show Tp K H v (.tuple [.str (PK.nm .street), .int f, .int per]) from h).tupI
    exact ⟨a, e⟩
theorem shp_lints (ks : List Int) : SeqAt.shaped (.list (ks.map PyData.int)) = true := by
  have a : PyData.canLayAll0 (ks.map PyData.int) = true := layAll fun d hd => by
    obtain ⟨k, _, rfl⟩ := List.mem_map.mp hd
    simp [PyData.canLay0]
  have b : PyData.depthAll (ks.map PyData.int) ≤ 1 := depAll fun d hd => by
    obtain ⟨k, _, rfl⟩ := List.mem_map.mp hd
    simp [PyData.depth]
  unfold SeqAt.shaped
  rw [Bool.and_eq_true, decide_eq_true_eq]
  exact ⟨by simp only [PyData.canLay0]; exact a, by simp only [PyData.depth]; omega⟩
theorem eqv_nil (ds : List PyData) : PyData.eqv (.list ds) (.list []) = decide (ds = []) := by
  cases ds <;> simp [PyData.eqv, PyData.eqvAll]
theorem dp_nats {K : PySem.W.Frag} {H : Hp} {a : Addr} {xs : List Nat} (h : H a = some (.lst (xs.map fun k : Nat => V.int (k : Int)))) : Dp K H (.ref a) (.list ((xs.map fun k : Nat => (k : Int)).map PyData.int)) := by
  refine .lst (SqL.of h) ?_
  clear h
  induction xs with
  | nil => exact .nil
  | cons x r ih => exact .cons (.int _) ih
theorem stopped_found {T : List (List Ent)} {z0 : WSt} {N : Nat} {most : Int} {o : Option Pap} (fo : FoundAt T z0 N most o) (h : ∃ k, k ≤ N ∧ stepW T (itS T z0 k) = none) : ∃ p, o = some p := by
  obtain ⟨i, z, he, fo⟩ := fo
  have hz := itS_end he h
  rcases fo with ⟨_, e⟩ | ⟨n, _⟩
  · exact ⟨_, e⟩
  · exact absurd hz n
theorem cutN' (xs : List V) (n : Nat) : cutV xs none (some (1 + ((n - 1 : Nat) : Int))) = xs.take (1 + (n - 1)) := by
  rw [show 1 + ((n - 1 : Nat) : Int) = ((1 + (n - 1) : Nat) : Int) by omega]
  unfold cutV
  rw [HT.sIx_none, HT.sIx_nat]
  show (xs.drop 0).take (min (1 + (n - 1)) xs.length - 0) = _
  rw [List.drop_zero, Nat.sub_zero, List.take_eq_take_iff]
  try omega
theorem cutK (xs : List V) (j : Nat) : cutV xs none (some (1 + (j : Int))) = xs.take (1 + j) := cutN' xs (j + 1)
theorem tpAll_take {K : PySem.W.Frag} {H : Hp} : ∀ {vs : List V} {ds : List PyData}, TpAll K H vs ds → ∀ n, TpAll K H (vs.take n) (ds.take n)
  | _, _, .nil, n => by
    rw [List.take_nil, List.take_nil]
    exact .nil
  | _, _, .cons h r, 0 => .nil
  | _, _, .cons h r, n + 1 => .cons h (tpAll_take r n)
theorem least_at {Q : Nat → Prop} : ∀ n, Q n → ∃ d, d ≤ n ∧ Q d ∧ ∀ j, j < d → ¬ Q j := by
  intro n
  induction n using Nat.strongRecOn with
  | ind n ih =>
    intro h
    by_cases c : ∃ m, m < n ∧ Q m
    · obtain ⟨m, l, hm⟩ := c
      obtain ⟨d, d1, d2, d3⟩ := ih m l hm
      exact ⟨d, by omega, d2, d3⟩
    · exact ⟨n, Nat.le_refl _, h, fun j l hj => c ⟨j, l, hj⟩⟩
theorem pap3 {p : Pap} (h : p.1 ≠ .stops) : papD p = .tuple [.str p.1.nm, .int (p.2.1 : Int), .int (p.2.2 : Int)] := by
  obtain ⟨kd, f, per⟩ := p
  cases kd with
  | stops => exact absurd rfl h
  | round => rfl
  | street => rfl
theorem sl3b (a b c : V) : ¬ (HT.sIx ([a, b, c] : List V).length 0 (some 2) = 0 ∧ HT.sIx ([a, b, c] : List V).length ([a, b, c] : List V).length none = ([a, b, c] : List V).length) := by
  show ¬ (HT.sIx 3 0 (some 2) = 0 ∧ HT.sIx 3 3 none = 3)
  decide
/-- a stand that the law drew -/
structure LSt (K : PySem.W.Frag) (H : Hp) (tv fv wv : V) (T : List (List Ent)) (c n : Nat) (F : List Sq) (u : Wk) : Prop where
  tab : TabOk c n T
  n1 : 1 ≤ n
  n2 : n ≤ 2
  c2 : 2 ≤ c
  c3 : c ≤ 3
  fl : FlOk c 3 F
  lF : F.length ≤ 4
  wk : InB 3 (wPt u)
  hd : 0 ≤ u.2.2.1 ∧ u.2.2.1 < 4
  st : 0 ≤ u.2.2.2 ∧ u.2.2.2 < n
  tT : Tp K H tv (tabD T)
  tF : Tp K H fv (floorD F)
  tW : Tp K H wv (wkD u)
theorem LSt.mono {K : PySem.W.Frag} {H H' : Hp} {tv fv wv : V} {T : List (List Ent)} {c n : Nat} {F : List Sq} {u : Wk} (h : LSt K H tv fv wv T c n F u) (t : TK H H') : LSt K H' tv fv wv T c n F u := ⟨h.tab, h.n1, h.n2, h.c2, h.c3, h.fl, h.lF, h.wk, h.hd, h.st, Tp.mono t _ _ h.tT, Tp.mono t _ _ h.tF, Tp.mono t _ _ h.tW⟩
theorem LSt.ok {K : PySem.W.Frag} {H : Hp} {tv fv wv : V} {T : List (List Ent)} {c n : Nat} {F : List Sq} {u : Wk} (h : LSt K H tv fv wv T c n F u) : StandOk c n 3 T F u := ⟨h.tab, h.tab.good h.n1 h.n2 h.c2 h.c3, h.n1, by have := h.c2; omega, h.fl, h.wk, h.hd, h.st⟩
def rowsD (T : List (List Ent)) (z0 : WSt) (Fs : List (List Sq)) : List PyData := Fs.mapIdx fun k F => walkD F (itS T z0 k).2 (doneS T z0 k)
theorem rowsD_more (T : List (List Ent)) (z0 : WSt) (Fs : List (List Sq)) (F : List Sq) : rowsD T z0 (Fs ++ [F]) = rowsD T z0 Fs ++ [walkD F (itS T z0 Fs.length).2 (doneS T z0 Fs.length)] := List.mapIdx_concat
structure RowsOk (T : List (List Ent)) (z0 : WSt) (Fs : List (List Sq)) (i : Nat) : Prop where
  len : Fs.length = i
  fl : ∀ k F, Fs[k]? = some F → FloorOf (itS T z0 k).1 F ∧ F.length ≤ 4 + k
theorem RowsOk.more {T : List (List Ent)} {z0 : WSt} {Fs : List (List Sq)} {i : Nat} (h : RowsOk T z0 Fs i) {F : List Sq} (hF : FloorOf (itS T z0 i).1 F) (lF : F.length ≤ 4 + i) : RowsOk T z0 (Fs ++ [F]) (i + 1) := by
  refine ⟨by rw [List.length_append, h.len]; rfl, fun k G e => ?_⟩
  rcases Nat.lt_or_ge k Fs.length with g | g
  · rw [List.getElem?_append_left g] at e
    exact h.fl k G e
  · rw [List.getElem?_append_right g, List.getElem?_singleton] at e
    split at e
    · have e := Option.some.inj e
      subst e
      have ek : k = i := by
        have := h.len
        omega
      rw [ek]
      exact ⟨hF, lF⟩
    · cases e
def standsD (T : List (List Ent)) (z0 : WSt) (Fs : List (List Sq)) : List PyData := Fs.mapIdx fun k F => stepD F (itS T z0 k).2
theorem standsD_more (T : List (List Ent)) (z0 : WSt) (Fs : List (List Sq)) (F : List Sq) : standsD T z0 (Fs ++ [F]) = standsD T z0 Fs ++ [stepD F (itS T z0 Fs.length).2] := List.mapIdx_concat
theorem standsD_at {T : List (List Ent)} {z0 : WSt} {Fs : List (List Sq)} {k : Nat} {F : List Sq} (e : Fs[k]? = some F) : (standsD T z0 Fs)[k]? = some (stepD F (itS T z0 k).2) := by
  unfold standsD
  rw [List.getElem?_mapIdx, e]
  rfl
theorem lay_step (F : List Sq) (w : Wk) : (stepD F w).canLay0 = true ∧ (stepD F w).depth ≤ 4 := by
  have sq : ∀ s : Sq, (sqD s).canLay0 = true ∧ (sqD s).depth ≤ 2 := fun s => by
    unfold sqD
    simp [PyData.canLay0, PyData.canLayAll0, PyData.depth, PyData.depthAll]
  have a : PyData.canLayAll0 (F.map sqD) = true := layAll fun d hd => by
    obtain ⟨s, _, rfl⟩ := List.mem_map.mp hd
    exact (sq s).1
  have b : PyData.depthAll (F.map sqD) ≤ 2 := depAll fun d hd => by
    obtain ⟨s, _, rfl⟩ := List.mem_map.mp hd
    exact (sq s).2
  unfold stepD floorD wkD
  simp only [PyData.canLay0, PyData.canLayAll0, PyData.depth, PyData.depthAll, a, Bool.and_self, true_and]
  omega
theorem shp_step (F : List Sq) (w : Wk) : SeqAt.shaped (stepD F w) = true := by
  obtain ⟨a, b⟩ := lay_step F w
  unfold SeqAt.shaped
  rw [Bool.and_eq_true, decide_eq_true_eq]
  exact ⟨a, by omega⟩
theorem shp_stands {ds : List PyData} (h : ∀ d ∈ ds, ∃ F w, d = stepD F w) : SeqAt.shaped (.list ds) = true := by
  have a : PyData.canLayAll0 ds = true := layAll fun d hd => by
    obtain ⟨F, w, rfl⟩ := h d hd
    exact (lay_step F w).1
  have b : PyData.depthAll ds ≤ 4 := depAll fun d hd => by
    obtain ⟨F, w, rfl⟩ := h d hd
    exact (lay_step F w).2
  unfold SeqAt.shaped
  rw [Bool.and_eq_true, decide_eq_true_eq]
  exact ⟨by simp only [PyData.canLay0]; exact a, by simp only [PyData.depth]; omega⟩
theorem standsD_form {T : List (List Ent)} {z0 : WSt} {Fs : List (List Sq)} {d : PyData} (h : d ∈ standsD T z0 Fs) : ∃ F w, d = stepD F w := by
  obtain ⟨k, hk⟩ := List.getElem?_of_mem h
  unfold standsD at hk
  rw [List.getElem?_mapIdx] at hk
  obtain ⟨F, _, e⟩ := Option.map_eq_some_iff.mp hk
  exact ⟨F, _, e.symm⟩
theorem stand_eq {T : List (List Ent)} {z0 : WSt} {Fs : List (List Sq)} {n i j : Nat} (ro : RowsOk T z0 Fs n) {F G : List Sq} (ei : Fs[i]? = some F) (ej : Fs[j]? = some G) : PyData.eqv (stepD F (itS T z0 i).2) (stepD G (itS T z0 j).2) = true ↔ itS T z0 i = itS T z0 j := by
  rw [eqv_step, decide_eq_true_eq]
  have f1 := (ro.fl i F ei).1
  have f2 := (ro.fl j G ej).1
  constructor
  · rintro ⟨rfl, e⟩
    exact Prod.ext (by rw [← f1.col, ← f2.col]) e
  · intro e
    rw [e] at f1
    exact ⟨f1.uniq f2, by rw [e]⟩
theorem any_stand {T : List (List Ent)} {z0 : WSt} {Fs : List (List Sq)} {n k : Nat} (ro : RowsOk T z0 Fs n) {F : List Sq} (ek : Fs[k]? = some F) : (((standsD T z0 Fs).take k).any fun z => PyData.eqv z (stepD F (itS T z0 k).2)) = true ↔ ∃ i, i < k ∧ itS T z0 i = itS T z0 k := by
  rw [List.any_eq_true]
  constructor
  · rintro ⟨d, hd, e⟩
    obtain ⟨i, hi⟩ := List.getElem?_of_mem hd
    have il : i < k := by
      have z := (List.getElem?_eq_some_iff.mp hi).1
      rw [List.length_take] at z
      omega
    rw [List.getElem?_take_of_lt il] at hi
    unfold standsD at hi
    rw [List.getElem?_mapIdx] at hi
    obtain ⟨G, eG, e2⟩ := Option.map_eq_some_iff.mp hi
    rw [← e2] at e
    exact ⟨i, il, (stand_eq ro eG ek).mp e⟩
  · rintro ⟨i, il, e⟩
    have kl := (List.getElem?_eq_some_iff.mp ek).1
    have eG : Fs[i]? = some Fs[i] := List.getElem?_eq_getElem (by omega)
    refine ⟨_, List.mem_of_getElem? (i := i) (by rw [List.getElem?_take_of_lt il]; exact standsD_at eG), (stand_eq ro eG ek).mpr e⟩
section
variable {P : Program} {w : World} {K : PySem.W.Frag} {mg : Str → Option Value} {base : Heap}
local macro_rules | `(tactic| walk_at "cl") => `(tactic| first | (refine le_only ?_; omega) | (refine lt_only ?_; omega) | assumption)
set_option maxHeartbeats 0 in
theorem ok_law {f : Addr} {fd : FuncData} (T : Txt K mg) (F : Fun K "law" "law" s_law f fd) (C_law_stand : Cal P w K mg base CX0 "_law_stand" 4 ["row"] (spLStand K)) (C_law_taken : Cal P w K mg base CX0 "_law_taken" 1 ["row", "many"] (spTaken K)) (C_law_table : Cal P w K mg base CX0 "_law_table" 2 ["row"] (spTable K)) (C_law_some_floor : Cal P w K mg base CX0 "_law_some_floor" 3 ["row", "colours", "most"] (spSomeFloor K)) (C_law_walker : Cal P w K mg base CX0 "_law_walker" 3 ["row", "table"] (spLWalker K)) (C_law_walk : Cal P w K mg base CX0 "_law_walk" 3 ["table", "floor", "walker", "many"] (spLWalk K)) (C_law_step : Cal P w K mg base CX0 "_law_step" 2 ["table", "cells", "walker"] (spLStep K)) (C_find_paper : Cal P w K mg base CX0 "find_paper" 7 ["table", "floor", "walker", "steps", "most"] (spFound K)) (C_soonest : Cal P w K mg base CX0 "soonest" 8 ["table", "floor", "walker", "paper"] (spSoon K)) (C_shows_paper : Cal P w K mg base CX0 "shows_paper" 6 ["table", "floor", "walker", "value"] (spShows K)) : FnOk P w K mg base CX0 9 f fd ["script"] (spLaw K) := by
  refine F.ok sc_law (fun vs H Q E h => ?_) (fun cdv A outer s H vs Q E hr h => ?_)
  · obtain ⟨a, ns, rfl, _⟩ := h
    rfl
  · obtain ⟨a, ns, rfl, hS, q⟩ := h
    refine ⟨_, (pss_cons (ps_set (i := 1) sc_law.nd rfl (Or.inl rfl) (pe_lst (pa_cons (pv 0) (pa_cons pe_int (pa_cons pe_int (pa_cons pe_int pa_nil))))))
      (pss_cons (ps_asg (pe_own C_law_stand hr (by first | decide | omega) (pa_cons (pv 1) pa_nil)) (pg_tup (by rfl) (pgs_cons (pg_name (i := 2) sc_law.nd rfl (Or.inl rfl)) (pgs_cons (pg_name (i := 3) sc_law.nd rfl (Or.inl rfl)) (pgs_cons (pg_name (i := 4) sc_law.nd rfl (Or.inl rfl)) (pgs_cons (pg_name (i := 5) sc_law.nd rfl (Or.inl rfl)) pgs_nil))))))
      (pss_cons (ps_if (pt_cmpR (k_eqD (K := K) hr.units) (pv 3) (pe_tup pa_nil) (nomark _)) (pss_cons (ps_asg (pv 5) (pg_tup (by rfl) (pgs_cons (pg_name (i := 6) sc_law.nd rfl (Or.inl rfl)) (pgs_cons (pg_name (i := 7) sc_law.nd rfl (Or.inl rfl)) (pgs_cons (pg_name (i := 8) sc_law.nd rfl (Or.inl rfl)) pgs_nil)))))
      (pss_cons (ps_set (i := 9) sc_law.nd rfl (Or.inl rfl) (pe_op op_add (pe_op op_add (pv 6) (pe_op op_mul pe_int (pv 7))) (pe_own C_law_taken hr (by first | decide | omega) (pa_cons (pv 1) (pa_cons pe_int pa_nil)))))
      (pss_cons (ps_set (i := 10) sc_law.nd rfl (Or.inl rfl) (pe_own C_find_paper hr (by first | decide | omega) (pa_cons (pv 2) (pa_cons (pv 3) (pa_cons (pv 4) (pa_cons (pv 9) (pa_cons (pe_op op_add (pv 7) (pe_own C_law_taken hr (by first | decide | omega) (pa_cons (pv 1) (pa_cons pe_int pa_nil)))) pa_nil)))))))
      (pss_cons (ps_if (PW.pt (pw_or (pt_cmpR op_isN (pv 10) pe_non (nomark _)) (pw_or1 (pt_cmpR op_ne (pe_ix (k_ix_tup (K := K)) (pv 10) pe_int (fun _ _ => rfl)) pe_str (nomark _))))) (pss_one (ps_ret pe_bl)) pss_nil)
      (pss_cons (ps_set (i := 11) sc_law.nd rfl (Or.inl rfl) (pe_own C_soonest hr (by first | decide | omega) (pa_cons (pv 2) (pa_cons (pv 3) (pa_cons (pv 4) (pa_cons (pv 10) pa_nil))))))
      (pss_cons (ps_if (pt_cmpR op_notBl (pe_own C_shows_paper hr (by first | decide | omega) (pa_cons (pv 2) (pa_cons (pv 3) (pa_cons (pv 4) (pa_cons (pe_tup (pa_cons pe_str (pa_cons (pv 6) (pa_cons (pv 7) pa_nil)))) pa_nil))))) pe_bl (nomark _)) (pss_one (ps_ret pe_bl)) pss_nil)
      (pss_one (ps_if (PW.pt (pw_and (pt_cmpR op_eq (pe_ix (k_ix_tup (K := K)) (pv 11) pe_int (fun _ _ => rfl)) (pv 7) (nomark _)) (pw_and1 (pt_cmpR op_ne (pe_ix (k_ix_tup (K := K)) (pv 11) pe_int (fun _ _ => rfl)) (pv 6) (nomark _))))) (pss_one (ps_ret pe_bl)) pss_nil)))))))) (pss_cons (ps_set (i := 2) sc_law.nd rfl (Or.inl rfl) (pe_own C_law_table hr (by first | decide | omega) (pa_cons (pv 1) pa_nil)))
      (pss_one (ps_par (i := 3) (j := 4) (by rfl) sc_law.nd rfl rfl (by decide) rfl rfl (pa_cons (pe_own C_law_some_floor hr (by first | decide | omega) (pa_cons (pv 1) (pa_cons (pe_callB (k_len_t (K := K)) (by rfl) T.m_len (by decide +kernel) (pa_cons (pe_ix (k_ix_tup (K := K)) (pv 2) pe_int (fun _ _ => rfl)) pa_nil)) (pa_cons pe_int pa_nil)))) (pa_cons (pe_own C_law_walker hr (by first | decide | omega) (pa_cons (pv 1) (pa_cons (pv 2) pa_nil))) pa_nil)) (by rfl)))))
      (pss_cons (ps_set (i := 9) sc_law.nd rfl (Or.inl rfl) (pe_op op_add pe_int (pe_own C_law_taken hr (by first | decide | omega) (pa_cons (pv 1) (pa_cons pe_int pa_nil)))))
      (pss_cons (ps_set (i := 10) sc_law.nd rfl (Or.inl rfl) (pe_own C_find_paper hr (by first | decide | omega) (pa_cons (pv 2) (pa_cons (pv 3) (pa_cons (pv 4) (pa_cons (pv 9) (pa_cons pe_int pa_nil)))))))
      (pss_cons (ps_asg (pe_tup (pa_cons (pe_lst pa_nil) (pa_cons pe_non pa_nil))) (pg_tup (by rfl) (pgs_cons (pg_name (i := 12) sc_law.nd rfl (Or.inr rfl)) (pgs_cons (pg_name (i := 13) sc_law.nd rfl (Or.inl rfl)) pgs_nil))))
      (pss_cons (ps_for PassesOwn.never rfl (pi_range1 (by rfl) T.m_range (pa_cons (pe_op op_add (pv 9) pe_int) pa_nil)) (pg_name (i := 14) sc_law.nd rfl (Or.inl rfl))
      (pss_cons (ps_set (i := 13) sc_law.nd rfl (Or.inl rfl) (pe_ifExp (pt_cmpR op_eq (pv 14) pe_int (nomark _)) (pe_own C_law_walk hr (by first | decide | omega) (pa_cons (pv 2) (pa_cons (pv 3) (pa_cons (pv 4) (pa_cons (pv 14) pa_nil))))) (pe_own C_law_walk hr (by first | decide | omega) (pa_cons (pv 2) (pa_cons (pe_ix (k_ix_tup (K := K)) (pv 13) pe_int (fun _ _ => rfl)) (pa_cons (pe_ix (k_ix_tup (K := K)) (pv 13) pe_int (fun _ _ => rfl)) (pa_cons pe_int pa_nil)))))))
      (pss_one (ps_expr (pe_bm PySem.F.plainAttrs_list PySem.F.slot_list_append PySem.F.type_list_append mt_append (pv 12) (pa_cons (pv 13) pa_nil))))))
      (pss_cons (ps_setLc (i := 15) (own := [("k", 20)]) (g := gName 20) rfl sc_law.nd rfl rfl (sw_true rfl rfl rfl (by decide +kernel)) (pi_range2 (by rfl) T.m_range (pa_cons pe_int (pa_cons (pe_op op_add (pv 9) pe_int) pa_nil))) (blkOk_by (by rfl)) (fun _ _ _ _ _ => (pg_name (i := 20) sc_law.nd rfl (Or.inl rfl))) (fun _ _ _ _ _ => pts_one (pt_cmpR op_eq (pe_ix (k_ix_tup (K := K)) (pe_ix (k_ix_list (K := K)) (pv 12) (pv 20) (fun _ _ => rfl)) pe_int (fun _ _ => rfl)) pe_int (nomark _))) (fun _ _ _ _ _ => (pv 20)))
      (pss_cons (ps_if (PW.pt (pw_and (pt_cmpR op_notN (pv 10) pe_non (nomark _)) (pw_and1 (pt_cmpR op_notBl (pe_own C_shows_paper hr (by first | decide | omega) (pa_cons (pv 2) (pa_cons (pv 3) (pa_cons (pv 4) (pa_cons (pv 10) pa_nil))))) pe_bl (nomark _))))) (pss_one (ps_ret pe_bl)) pss_nil)
      (pss_cons (ps_if (PW.pt (pw_or (pt_cmpR (k_neD (K := K) hr.units) (pv 15) (pe_lst pa_nil) (nomark _)) (pw_or1 (pt_cmpR op_isN (pe_own C_law_step hr (by first | decide | omega) (pa_cons (pv 2) (pa_cons (pe_callTy (k_dictP (K := K) rfl (hu2_of hr)) (by rfl) T.m_dict (by decide +kernel) (pa_cons (pe_lc (own := [("square", 21)]) (g := gName 21) rfl sc_law.nd (k_pi_tup (K := K) (pe_ix (k_ix_tup (K := K)) (pv 13) pe_int (fun _ _ => rfl))) (blkOk_by (by rfl)) (fun _ _ _ _ _ => (pg_name (i := 21) sc_law.nd rfl (Or.inl rfl))) (fun _ _ _ _ _ => pts_nil) (fun _ _ _ _ _ => (pe_tup (pa_cons (pe_slice (k_sl_tup (K := K)) (pv 21) po_none (po_some pe_int)) (pa_cons (pe_ix (k_ix_tup (K := K)) (pv 21) pe_int (fun _ _ => rfl)) pa_nil))))) pa_nil)) (pa_cons (pe_ix (k_ix_tup (K := K)) (pv 13) pe_int (fun _ _ => rfl)) pa_nil)))) pe_non (nomark _))))) (pss_one (ps_ret (pe_cmpR op_notN (pv 10) pe_non (nomark _)))) pss_nil)
      (pss_cons (ps_set (i := 16) sc_law.nd rfl (Or.inr rfl) (pe_lc (own := [("one", 22)]) (g := gName 22) rfl sc_law.nd (k_pi_list (K := K) (pv 12)) (blkOk_by (by rfl)) (fun _ _ _ _ _ => (pg_name (i := 22) sc_law.nd rfl (Or.inl rfl))) (fun _ _ _ _ _ => pts_nil) (fun _ _ _ _ _ => (pe_slice (k_sl_tup (K := K)) (pv 22) po_none (po_some pe_int)))))
      (pss_cons (ps_setLc (i := 17) (own := [("k", 20)]) (g := gName 20) rfl sc_law.nd rfl rfl (sw_true rfl rfl rfl (by decide +kernel)) (pi_range2 (by rfl) T.m_range (pa_cons pe_int (pa_cons (pe_callB (k_len_l (K := K)) (by rfl) T.m_len (by decide +kernel) (pa_cons (pv 16) pa_nil)) pa_nil))) (blkOk_by (by rfl)) (fun _ _ _ _ _ => (pg_name (i := 20) sc_law.nd rfl (Or.inl rfl))) (fun _ _ _ _ _ => pts_one (pt_cmpR (k_inD (K := K) (hu65 hr)) (pe_ix (k_ix_list (K := K)) (pv 16) (pv 20) (fun _ _ => rfl)) (pe_slice (k_sl_list (K := K)) (pv 16) po_none (po_some (pv 20))) (by rfl))) (fun _ _ _ _ _ => (pv 20)))
      (pss_cons (ps_if (PW.pt (pw_and (pt_cmpR (k_neD (K := K) hr.units) (pv 17) (pe_lst pa_nil) (nomark _)) (pw_and1 (pt_cmpR op_isN (pv 10) pe_non (nomark _))))) (pss_cons (ps_set (i := 18) sc_law.nd rfl (Or.inl rfl) (pe_bm PySem.F.plainAttrs_list PySem.F.slot_list_index PySem.F.type_list_index (k_indexD (K := K) (hu65 hr)) (pv 16) (pa_cons (pe_ix (k_ix_list (K := K)) (pv 16) (pe_ix (k_ix_list (K := K)) (pv 17) pe_int (fun _ _ => rfl)) (fun _ _ => rfl)) pa_nil)))
      (pss_one (ps_ret (pe_or (pe_cmpR op_gt (pe_op op_mul pe_int (pv 18)) (pv 9) (nomark _)) (pe_one (pe_cmpR op_gt (pe_op op_mul pe_int (pe_op op_sub (pe_ix (k_ix_list (K := K)) (pv 17) pe_int (fun _ _ => rfl)) (pv 18))) (pv 9) (nomark _))))))) pss_nil)
      (pss_cons (ps_if (pt_cmpR op_isN (pv 10) pe_non (nomark _)) (pss_one (ps_ret pe_bl)) pss_nil)
      (pss_cons (ps_set (i := 19) sc_law.nd rfl (Or.inl rfl) (pe_own C_soonest hr (by first | decide | omega) (pa_cons (pv 2) (pa_cons (pv 3) (pa_cons (pv 4) (pa_cons (pv 10) pa_nil))))))
      (pss_cons (ps_if (PW.pt (pw_or (pt_cmpR op_notBl (pe_own C_shows_paper hr (by first | decide | omega) (pa_cons (pv 2) (pa_cons (pv 3) (pa_cons (pv 4) (pa_cons (pv 19) pa_nil))))) pe_bl (nomark _)) (pw_or1 (pt_cmpR op_ne (pe_ix (k_ix_tup (K := K)) (pv 19) pe_int (fun _ _ => rfl)) (pe_ix (k_ix_tup (K := K)) (pv 10) pe_int (fun _ _ => rfl)) (nomark _))))) (pss_one (ps_ret pe_bl)) pss_nil)
      (pss_cons (ps_if (pt_cmpR (k_neD (K := K) hr.units) (pe_slice (k_sl_tup (K := K)) (pv 19) (po_some pe_int) po_none) (pe_slice (k_sl_tup (K := K)) (pv 10) (po_some pe_int) po_none) (nomark _)) (pss_one (ps_ret pe_bl)) pss_nil)
      (pss_one (ps_ret (pe_or (pe_cmpR op_eq (pe_ix (k_ix_tup (K := K)) (pv 19) pe_int (fun _ _ => rfl)) pe_int (nomark _)) (pe_one (pe_cmpR op_isBl (pe_own C_shows_paper hr (by first | decide | omega) (pa_cons (pv 2) (pa_cons (pv 3) (pa_cons (pv 4) (pa_cons (pe_op (k_catA (K := K)) (pe_tup (pa_cons (pe_ix (k_ix_tup (K := K)) (pv 19) pe_int (fun _ _ => rfl)) (pa_cons (pe_op op_sub (pe_ix (k_ix_tup (K := K)) (pv 19) pe_int (fun _ _ => rfl)) pe_int) pa_nil))) (pe_slice (k_sl_tup (K := K)) (pv 19) (po_some pe_int) po_none)) pa_nil))))) pe_bl (nomark _))))))))))))))))))))))), ?_⟩
    walk_at "st"
    intro r nr
    have R0 : Row K (upd H r (.lst [.ref a, .int 0, .int 11107, .int 0])) r := ⟨a, ns, 0, 11107, 0, upd_same, hS.mono (TK.new nr), by decide, by decide, by decide, by decide⟩
    generalize hH0 : upd H r (.lst [.ref a, .int 0, .int 11107, .int 0]) = H0 at *
    refine gname_seq ?_
    refine seq_assoc ?_
    rw [show L2.start ["script", "row", "table", "floor", "walker", "known", "first", "period", "move", "steps", "paper", "found", "rows", "end", "step", "stopped", "stands", "again", "tail", "sooner", "k", "square", "one"] [V.ref a] = [some (V.ref a), none, none, none, none, none, none, none, none, none, none, none, none, none, none, none, none, none, none, none, none, none, none] from rfl]
    simp only [List.set_cons_zero, List.set_cons_succ]
    refine seq_cutO (fun σ' H' => ∃ (y5 y6 y7 y8 y9 y10 y11 : Option V) (tv fv wv : V) (T : List (List Ent)) (c n : Nat) (F : List Sq) (u : Wk), σ' = [some (.ref a), some (.ref r), some tv, some fv, some wv, y5, y6, y7, y8, y9, y10, y11, none, none, none, none, none, none, none, none, none, none, none] ∧ LSt K H' tv fv wv T c n F u ∧ Row K H' r) ?_ ?_
    rotate_left
    -- <A
    · intro R hR
      clear hH0 hS nr
      walk_at "st"
      intro v H1 k c n F hk n1 n2 c2 c3 tab fl lF hv R1 k1
      obtain ⟨sa, xs, rfl, hsa, hx⟩ := hv.tupI
      obtain ⟨tv, xs, rfl, htv, hx⟩ := hx.consI
      obtain ⟨fv, xs, rfl, hfv, hx⟩ := hx.consI
      obtain ⟨wv, xs, rfl, hwv, hx⟩ := hx.consI
      obtain ⟨kv, xs, rfl, hkv, hx⟩ := hx.consI
      obtain rfl := hx.nilI
      have stand : LSt K H1 tv fv wv k.1 c n F wkO := ⟨tab, n1, n2, c2, c3, fl, lF, by show (-3 ≤ (0 : Int) ∧ (0 : Int) ≤ 3) ∧ (-3 ≤ (0 : Int) ∧ (0 : Int) ≤ 3); decide, by show (0 : Int) ≤ 0 ∧ (0 : Int) < 4; decide, by show (0 : Int) ≤ 0 ∧ (0 : Int) < n; omega, htv, hfv, hwv⟩
      clear hv hx R0 k1 htv hwv
      walk_at "st"
      intro p0 np0
      have s2 : Same H1 (upd H1 p0 (.tup [])) := Same.new np0
      have hp0 : Tp K (upd H1 p0 (.tup [])) (.ref p0) (.tuple []) := .tup (SqT.of upd_same) .nil
      generalize hH2 : upd H1 p0 (.tup []) = H2 at *
      have stand2 := stand.mono (Same.tk s2)
      have R2 := R1.same s2
      have hkv2 := Tp.mono (Same.tk s2) _ _ hkv
      have dp1 := Tp.dp _ _ stand2.tF
      have dp2 := Tp.dp _ _ hp0
      have sh1 := shp_floor F
      have sh2 : SeqAt.shaped (.tuple []) = true := by decide +kernel
      have eqf := eqv_nilF F
      clear stand R1 s2 hH2 np0 hsa hfv hkv
      walk_at "st"
      rw [eqf]
      refine ite2 (fun e => ?_) (fun e => ?_)
      · have e := of_decide_eq_true e
        subst e
        -- <A1
        obtain ⟨ka, xs, rfl, hka, hx⟩ := (show Tp K H2 kv (.tuple [.int k.2.1, .int k.2.2.1, .tuple [.int k.2.2.2.1, .int k.2.2.2.2]]) from hkv2).tupI
        obtain ⟨v1, xs, rfl, h1, hx⟩ := hx.consI
        obtain ⟨v2, xs, rfl, h2, hx⟩ := hx.consI
        obtain ⟨v3, xs, rfl, h3, hx⟩ := hx.consI
        obtain rfl := hx.nilI
        obtain rfl := h1.intI
        obtain rfl := h2.intI
        obtain ⟨s1, s2, s3⟩ := kn_small k hk
        obtain ⟨Y, kY⟩ := kn_at hk s2
        have cm : CMul 2 (k.2.2.1 : Int) := .inl ⟨by decide, by decide⟩
        clear hx h1 h2 h3 dp1 dp2 sh1 sh2 hp0 hkv2 eqf
        walk_at "st"
        intro e H3 e0 e1 R3 k3
        have stand3 := stand2.mono (k3.row R2)
        clear stand2 R2 k3
        obtain ⟨stp, estp⟩ : ∃ stp : Nat, (k.2.1 : Int) + 2 * (k.2.2.1 : Int) + e = (stp : Int) := ⟨(k.2.1 + 2 * k.2.2.1 + e.toNat), by omega⟩
        walk_at "st"
        intro d H4 d0 d1 R4 k4
        have stand4 := stand3.mono (k4.row R3)
        clear stand3 R3 k4
        rw [show (fun i j : Int => V.int (i + j)) ((k.2.1 : Int) + 2 * (k.2.2.1 : Int)) e = V.int (stp : Int) from congrArg V.int estp]
        have sok := stand4.ok
        have tT := stand4.tT
        have tF := stand4.tF
        have tW := stand4.tW
        have l0 : ([] : List Sq).length ≤ 1000 := by decide
        have b9 : (3 : Int) ≤ 1000000000 := by decide
        have l1 : 1 ≤ stp := by omega
        have l2 : ([] : List Sq).length + stp ≤ 2900 := by show 0 + stp ≤ 2900; omega
        walk_at "st"
        intro v H5 o fo hv s5
        obtain ⟨p, rfl, kd⟩ := kn_found kY hk (by omega) (by omega) (by omega) fo
        obtain ⟨po, rp, lp⟩ := FoundAt.ok fo (by omega)
        obtain ⟨kd', f0, q0⟩ := p
        obtain rfl : kd' = .street := kd
        have stand5 := stand4.mono (Same.tk s5)
        have R5 := R4.same s5
        clear stand4 sok tT tF tW R4 s5 fo
        obtain ⟨pa, xs, rfl, hpa, hx⟩ := (show Tp K H5 v (.tuple [.str (PK.nm .street), .int f0, .int q0]) from hv).tupI
        obtain ⟨v1, xs, rfl, h1, hx⟩ := hx.consI
        obtain ⟨v2, xs, rfl, h2, hx⟩ := hx.consI
        obtain ⟨v4, xs, rfl, h3, hx⟩ := hx.consI
        obtain rfl := hx.nilI
        cases h1
        obtain rfl := h2.intI
        obtain rfl := h3.intI
        have lp : f0 + q0 ≤ stp := lp
        have hvp : Tp K H5 (.ref pa) (papD (.street, f0, q0)) := hv
        have b9 : (3 : Int) ≤ 1000000000 := by decide
        have sok := stand5.ok
        have tT := stand5.tT
        have tF := stand5.tF
        have tW := stand5.tW
        have l3 : ([] : List Sq).length + f0 + q0 ≤ 3000 := by show 0 + f0 + q0 ≤ 3000; omega
        clear h2 h3 hx
        walk_at "st"
        intro sv H6 fs lfs _ prop hsv s6
        obtain ⟨pr1, pr2⟩ := prop Y (by intro z; cases z) kY.inf
        have lfs : fs ≤ f0 := lfs
        have pr1 : ∀ i, fs ≤ i → i < f0 → stY Y i = stY Y (i + q0) := pr1
        have pr2 : fs = 0 ∨ stY Y (fs - 1) ≠ stY Y (fs - 1 + q0) := pr2
        have stand6 := stand5.mono (Same.tk s6)
        have R6 := R5.same s6
        obtain ⟨fa, xs, rfl, hfa, hx⟩ := (show Tp K H6 sv (.tuple [.str (PK.nm .street), .int fs, .int q0]) from hsv).tupI
        obtain ⟨v1, xs, rfl, h1, hx⟩ := hx.consI
        obtain ⟨v2, xs, rfl, h2, hx⟩ := hx.consI
        obtain ⟨v4, xs, rfl, h3, hx⟩ := hx.consI
        obtain rfl := hx.nilI
        cases h1
        obtain rfl := h2.intI
        obtain rfl := h3.intI
        clear h2 h3 hx stand5 R5 s6 sok tT tF tW hvp hv hpa hsv prop
        walk_at "st"
        intro pt npt
        have s7 : Same H6 (upd H6 pt (.tup [.str "street", .int k.2.1, .int k.2.2.1])) := Same.new npt
        have hpt : Tp K (upd H6 pt (.tup [.str "street", .int k.2.1, .int k.2.2.1])) (.ref pt) (papD (.street, k.2.1, k.2.2.1)) := .tup (SqT.of upd_same) (.cons (.str _) (.cons (.int _) (.cons (.int _) .nil)))
        generalize hH7 : upd H6 pt (.tup [.str "street", .int k.2.1, .int k.2.2.1]) = H7 at *
        have stand7 := stand6.mono (Same.tk s7)
        have R7 := R6.same s7
        have hfa7 := (Same.tk s7).seqT hfa
        have sok := stand7.ok
        have tT := stand7.tT
        have tF := stand7.tF
        have tW := stand7.tW
        have po2 : PapOk (.street, k.2.1, k.2.2.1) := ⟨by show k.2.1 ≤ 100000; omega, fun z => (by cases z), fun _ => s2, by show k.2.2.1 ≤ 2000; omega⟩
        have l4 : ([] : List Sq).length + k.2.1 + k.2.2.1 ≤ 3000 := by show 0 + k.2.1 + k.2.2.1 ≤ 3000; omega
        clear stand6 R6 s7 hH7 hfa npt l3 po
        walk_at "st"
        intro b H8 hb s8
        obtain rfl : b = true := hb.mpr kY.right
        have stand8 := stand7.mono (Same.tk s8)
        have R8 := R7.same s8
        have hfa8 := (Same.tk s8).seqT hfa7
        clear stand7 R7 s8 hfa7 hpt sok tT tF tW hb
        walk_at "st"
        have done : R ((((((((((([some (V.ref a), some (V.ref r), none, none, none, none, none, none, none, none, none, none, none, none, none, none, none, none, none, none, none, none, none] : L2.St).set 2 (some tv)).set 3 (some fv)).set 4 (some wv)).set 5 (some (V.ref ka))).set 6 (some (V.int (k.2.1 : Int)))).set 7 (some (V.int (k.2.2.1 : Int)))).set 8 (some v3)).set 9 (some (V.int (stp : Int)))).set 10 (some (V.ref pa))).set 11 (some (V.ref fa))) H8 := hR _ _ ⟨_, _, _, _, _, _, _, tv, fv, wv, k.1, c, n, [], wkO, rfl, stand8, R8⟩
        refine ite2 (fun e => ?_) (fun _ => ?_)
        · have e : (V.int (q0 : Int)) = V.int (k.2.2.1 : Int) := of_decide_eq_true e
          injection e with e
          obtain rfl : q0 = k.2.2.1 := by omega
          have ef := kn_first kY hk rp lfs pr1 pr2
          walk_at "st"
          refine ite2 (fun e2 => absurd e2 (by rw [ef]; simp)) (fun _ => ?_)
          exact nx_of done
        · exact nx_of done
        -- >A1
      · -- <A2
        clear dp1 dp2 sh1 sh2 hp0 hkv2 eqf stand2
        walk_at "st"
        intro tv2 H3 c' n' Tb m1 m2 m3 m4 tab' hT R3 k3
        refine gname_of ?_
        simp only [List.set_cons_zero, List.set_cons_succ]
        refine par_of ?_
        obtain ⟨ta, tvs, rfl, hta, htvs⟩ := (show Tp K H3 tv2 (.tuple (Tb.map rowD)) from hT).tupI
        have l0 : 0 < Tb.length := by rw [tab'.1]; omega
        obtain ⟨t0, et0, ht0⟩ := htvs.get (i := 0) (d := rowD Tb[0]) (by rw [List.getElem?_map, List.getElem?_eq_getElem l0]; rfl)
        obtain ⟨rb, rvs, rfl, hrb, hrvs⟩ := (show Tp K H3 t0 (.tuple (Tb[0].map entD)) from ht0).tupI
        have lrv : rvs.length = c' := by rw [TpAll.length hrvs, List.length_map]; exact (tab'.2 _ (List.getElem_mem l0)).1
        have at0' : atI tvs 0 = some (.ref rb) := atI_nat et0
        have c26 : c' ≤ 6 := by omega
        have c22 : 2 ≤ c' := m3
        clear R2 k3 ht0
        walk_at "st"
        rw [lrv]
        intro fv2 H4 F2 fl2 lF2 hf2 R4 k4
        have hT4 := Tp.mono (k4.row R3) _ _ hT
        have lT1 : 1 ≤ Tb.length := l0
        have lT10 : Tb.length ≤ 10 := by
          have := tab'.1
          omega
        walk_at "st"
        intro wv2 H5 u2 wb wh wst hw R5 k5
        have wst : 0 ≤ u2.2.2.2 ∧ u2.2.2.2 < (n' : Int) := by
          have := tab'.1
          omega
        refine ⟨_, _, rfl, ?_⟩
        exact hR _ _ ⟨_, _, _, _, _, _, _, .ref ta, fv2, wv2, Tb, c', n', F2, u2, rfl, ⟨tab', m1, m2, m3, m4, fl2, lF2, wb, wh, wst, Tp.mono (k5.row R4) _ _ hT4, Tp.mono (k5.row R4) _ _ hf2, hw⟩, R5⟩
        -- >A2
    -- >A
    · rintro σ' H1 ⟨y5, y6, y7, y8, y9, y10, y11, tv, fv, wv, Tb, c, n, Fl, u, rfl, stand, R1⟩
      clear hH0 R0 hS nr
      walk_at "st"
      intro e H2 e0 e1 R2 k2
      have stand2 := stand.mono (k2.row R1)
      clear stand R1 k2
      obtain ⟨stp, estp⟩ : ∃ stp : Nat, (64 : Int) + e = (stp : Int) := ⟨(64 + e.toNat), by omega⟩
      refine ⟨_, _, rfl, rfl, ?_⟩
      refine gname_seq ?_
      rw [show (fun i j : Int => V.int (i + j)) (64 : Int) e = V.int (stp : Int) from congrArg V.int estp]
      simp only [List.set_cons_zero, List.set_cons_succ]
      have sok := stand2.ok
      have tT := stand2.tT
      have tF := stand2.tF
      have tW := stand2.tW
      have lF := stand2.lF
      have b9 : (3 : Int) ≤ 1000000000 := by decide
      have l0 : Fl.length ≤ 1000 := by omega
      have l1 : 1 ≤ stp := by omega
      have l2 : Fl.length + stp ≤ 2900 := by omega
      have m1 : (1 : Int) ≤ 20 := by decide
      have m2 : (20 : Int) ≤ 2000 := by decide
      walk_at "st"
      intro pv H3 o fo hpv s3
      have stand3 := stand2.mono (Same.tk s3)
      have R3 := R2.same s3
      clear stand2 R2 s3 sok tT tF tW m1 m2
      walk_at "st"
      intro Lp nLp
      have s4 : Same H3 (upd H3 Lp (.lst [])) := Same.new nLp
      have hLp : (upd H3 Lp (.lst [])) Lp = some (.lst []) := upd_same
      generalize hH4 : upd H3 Lp (.lst []) = H4 at *
      walk_at "st"
      intro pt npt
      have s5 : Same H4 (upd H4 pt (.tup [.ref Lp, .non])) := Same.new npt
      have hpt : SqT K (upd H4 pt (.tup [.ref Lp, .non])) pt [.ref Lp, .non] := SqT.of upd_same
      generalize hH5 : upd H4 pt (.tup [.ref Lp, .non]) = H5 at *
      have hLp5 := s5 _ _ hLp
      have s35 := Same.trans s4 s5
      have stp1 : (stp : Int) + 1 < 2 ^ 62 := by omega
      have stp2 : -2 ^ 62 ≤ (stp : Int) + 1 := by omega
      clear hH4 hH5 npt s4 s5 hLp
      walk_at "st"
      refine for_range (lo := 0) (n := ((stp : Int) + 1).toNat) (fun i σ H' => Ok (∃ (y14 : Option V) (endv : V) (vs : List V) (Fs : List (List Sq)), σ = [some (.ref a), some (.ref r), some tv, some fv, some wv, y5, y6, y7, y8, some (.int (stp : Int)), some pv, y11, some (.ref Lp), some endv, y14, none, none, none, none, none, none, none, none] ∧ Same H3 H' ∧ H' Lp = some (.lst vs) ∧ TpAll K H' vs (rowsD Tb (colF Fl, u) Fs) ∧ RowsOk Tb (colF Fl, u) Fs i ∧ ∀ j, i = j + 1 → vs[j]? = some endv)) ?_ ?_ ?_
      · exact ⟨_, _, [], [], rfl, s35, hLp5, .nil, ⟨rfl, fun k F e => by simp at e⟩, fun j e => by omega⟩
      · rintro i σ H6 hi ⟨y14, endv, vs, Fs, rfl, s6, hL6, hvs, ro, ev⟩
        -- <B
        have hi : i < stp + 1 := by omega
        have stand6 := stand3.mono (Same.tk s6)
        have tab := stand6.tab
        have tT := stand6.tT
        have tF := stand6.tF
        have tW := stand6.tW
        have asc := stand6.fl.asc
        have fit0 : Fit c n 3 (colF Fl, u) := stand6.ok.fit
        have lvs : vs.length = i := by
          rw [TpAll.length hvs]
          unfold rowsD
          rw [List.length_mapIdx, ro.len]
        have hsz : vs.length < sizeLine := small1000 (by omega)
        walk_at "st"
        refine ite2 (fun e => ?_) (fun e => ?_)
        · have e : V.int (0 + (i : Int)) = V.int 0 := of_decide_eq_true e
          injection e with e
          obtain rfl : i = 0 := by omega
          have l400 : Fl.length ≤ 400 := by omega
          have m0 : (0 : Int) ≤ 0 + ((0 : Nat) : Int) := by decide
          have m4 : 0 + ((0 : Nat) : Int) ≤ 400 := by decide
          walk_at "st"
          intro v H7 j F' z he hF hv s7
          have r := he.run
          have jl := he.le
          obtain rfl : j = 0 := by
            have : (0 + ((0 : Nat) : Int)).toNat = 0 := by decide
            omega
          obtain rfl := Option.some.inj (show some (colF Fl, u) = some z from r)
          have hL7 := s7 _ _ hL6
          refine gname_of ?_
          simp only [List.set_cons_zero, List.set_cons_succ]
          walk_at "st"
          have t8 : TK H7 (upd H7 Lp (.lst (vs ++ [v]))) := TK.lst hL7
          refine ⟨_, v, vs ++ [v], Fs ++ [F'], rfl, Same.fresh (Same.trans s6 s7) nLp, upd_same, ?_, ro.more hF ?_, fun j ej => ?_⟩
          · rw [rowsD_more, ro.len]
            exact TpAll.append (TpAll.mono ((Same.tk s7).trans t8) _ _ hvs) (.cons (Tp.mono t8 _ _ hv) .nil)
          · have floor0 : FloorOf (colF Fl) Fl := stand6.fl.fl
            rw [hF.uniq floor0]
            omega
          · obtain rfl : j = 0 := by omega
            rw [List.getElem?_append_right (by omega), lvs]
            rfl
        · have e : ¬ V.int (0 + (i : Int)) = V.int 0 := fun z => e (decide_eq_true z)
          have i1 : 1 ≤ i := by
            rcases Nat.eq_zero_or_pos i with z | z
            · subst z
              exact absurd rfl e
            · exact z
          obtain ⟨j0, rfl⟩ : ∃ j0, i = j0 + 1 := ⟨i - 1, by omega⟩
          have j0l : j0 < Fs.length := by
            have := ro.len
            omega
          have e0 : Fs[j0]? = some Fs[j0] := List.getElem?_eq_getElem j0l
          obtain ⟨f0, lf0⟩ := ro.fl j0 _ e0
          obtain ⟨eu, eeu, heu⟩ := hvs.get (i := j0) (d := walkD Fs[j0] (itS Tb (colF Fl, u) j0).2 (doneS Tb (colF Fl, u) j0)) (by
            unfold rowsD
            rw [List.getElem?_mapIdx, e0]
            rfl)
          rw [ev j0 rfl] at eeu
          cases eeu
          generalize Fs[j0] = F0 at *
          have ez : (colF F0, (itS Tb (colF Fl, u) j0).2) = itS Tb (colF Fl, u) j0 := Prod.ext f0.col rfl
          have fitJ := itS_fit tab fit0 j0
          rw [← ez] at fitJ
          have ascJ := f0.asc
          obtain ⟨ea, xs, rfl, hea, hx⟩ := (show Tp K H6 endv (.tuple [floorD F0, wkD (itS Tb (colF Fl, u) j0).2, .int (doneS Tb (colF Fl, u) j0)]) from heu).tupI
          obtain ⟨fe, xs, rfl, hfe, hx⟩ := hx.consI
          obtain ⟨we, xs, rfl, hwe, hx⟩ := hx.consI
          obtain ⟨de, xs, rfl, hde, hx⟩ := hx.consI
          obtain rfl := hx.nilI
          have l400 : F0.length ≤ 400 := by omega
          have m0 : (0 : Int) ≤ 1 := by decide
          have m4 : (1 : Int) ≤ 400 := by decide
          clear hx hde heu
          walk_at "st"
          intro v H7 j F' z he hF hv s7
          have he : Ends Tb (colF F0, (itS Tb (colF Fl, u) j0).2) 1 j z := he
          rw [ez] at he
          obtain ⟨e1, e2⟩ := one_end he
          have ez2 : z = itS Tb (colF Fl, u) (j0 + 1) := e1
          have ej2 : j = doneS Tb (colF Fl, u) (j0 + 1) := e2
          rw [ez2, ej2] at hv
          rw [ez2] at hF
          have lF' := step_floor f0 hF
          have hL7 := s7 _ _ hL6
          refine gname_of ?_
          simp only [List.set_cons_zero, List.set_cons_succ]
          walk_at "st"
          have t8 : TK H7 (upd H7 Lp (.lst (vs ++ [v]))) := TK.lst hL7
          refine ⟨_, v, vs ++ [v], Fs ++ [F'], rfl, Same.fresh (Same.trans s6 s7) nLp, upd_same, ?_, ro.more hF (by omega), fun j ej => ?_⟩
          · rw [rowsD_more, ro.len]
            exact TpAll.append (TpAll.mono ((Same.tk s7).trans t8) _ _ hvs) (.cons (Tp.mono t8 _ _ hv) .nil)
          · obtain rfl : j = j0 + 1 := by omega
            rw [List.getElem?_append_right (by omega), lvs, Nat.sub_self]
            rfl
        -- >B
      · rintro σ H6 ⟨y14, endv, vs, Fs, rfl, s6, hL6, hvs, ro, ev⟩
        rw [show ((stp : Int) + 1).toNat = stp + 1 by omega] at ro ev
        have ev := ev stp rfl
        have lvs : vs.length = stp + 1 := by
          rw [TpAll.length hvs]
          unfold rowsD
          rw [List.length_mapIdx, ro.len]
        have rowAt : ∀ k, k ≤ stp → ∃ (F : List Sq) (ra : Addr) (fe we : V), Fs[k]? = some F ∧ FloorOf (itS Tb (colF Fl, u) k).1 F ∧ F.length ≤ 4 + k ∧ vs[k]? = some (.ref ra) ∧ SqT K H6 ra [fe, we, .int (doneS Tb (colF Fl, u) k)] ∧ Tp K H6 fe (floorD F) ∧ Tp K H6 we (wkD (itS Tb (colF Fl, u) k).2) := fun k kl => by
          have kF : k < Fs.length := by
            have := ro.len
            omega
          have e0 : Fs[k]? = some Fs[k] := List.getElem?_eq_getElem kF
          obtain ⟨f0, lf0⟩ := ro.fl k _ e0
          obtain ⟨eu, eeu, heu⟩ := hvs.get (i := k) (d := walkD Fs[k] (itS Tb (colF Fl, u) k).2 (doneS Tb (colF Fl, u) k)) (by
            unfold rowsD
            rw [List.getElem?_mapIdx, e0]
            rfl)
          obtain ⟨ea, xs, rfl, hea, hx⟩ := (show Tp K H6 eu (.tuple [floorD Fs[k], wkD (itS Tb (colF Fl, u) k).2, .int (doneS Tb (colF Fl, u) k)]) from heu).tupI
          obtain ⟨fe, xs, rfl, hfe, hx⟩ := hx.consI
          obtain ⟨we, xs, rfl, hwe, hx⟩ := hx.consI
          obtain ⟨de, xs, rfl, hde, hx⟩ := hx.consI
          obtain rfl := hx.nilI
          obtain rfl := hde.intI
          exact ⟨Fs[k], ea, fe, we, e0, f0, lf0, eeu, hea, hfe, hwe⟩
        have stand6 := stand3.mono (Same.tk s6)
        have R6 := R3.same s6
        have hpv6 := Tp.mono (Same.tk s6) _ _ hpv
        have s63 := s6
        clear stand3 R3 hpv s35 hLp5 hpt
        walk_at "st"
        intro D nD
        have nDL : D ≠ Lp := (ne_of_none hL6 nD).symm
        refine lc_range (lo := 1) (n := ((stp : Int) + 1 - 1).toNat) (fun j H' => Ok (Same H6 H' ∧ ∃ xs : List Nat, H' D = some (.lst (xs.map fun k : Nat => V.int (k : Int))) ∧ xs.length ≤ j ∧ ∀ k, k ∈ xs ↔ 1 ≤ k ∧ k ≤ j ∧ doneS Tb (colF Fl, u) k = 0)) ⟨Same.new nD, [], upd_same, Nat.le_refl _, fun k => ⟨fun h => absurd h List.not_mem_nil, fun h => by omega⟩⟩ ?_ ?_
        · rintro j H7 hj ⟨s7, xs, hD, lxs, mxs⟩
          -- <C1
          obtain ⟨F1, ra, fe, we, _, _, _, er, hra, _, _⟩ := rowAt (1 + j) (by omega)
          have hSL7 := SqL.of (K := K) (s7 _ _ hL6)
          have hra7 := (Same.tk s7).seqT hra
          have hat : atI vs (1 + (j : Int)) = some (.ref ra) := by
            rw [show 1 + (j : Int) = ((1 + j : Nat) : Int) by omega]
            exact atI_nat er
          have hsz : (xs.map fun k : Nat => V.int (k : Int)).length < sizeLine := small1000 (by rw [List.length_map]; omega)
          walk_at "st"
          refine ite2 (fun e => ?_) (fun e => ?_)
          · have e : V.int ((doneS Tb (colF Fl, u) (1 + j) : Nat) : Int) = V.int 0 := of_decide_eq_true e
            injection e with e
            walk_at "st"
            refine ⟨Same.fresh s7 nD, xs ++ [1 + j], ?_, by rw [List.length_append]; exact Nat.succ_le_succ lxs, fun k => ?_⟩
            · rw [upd_same, List.map_append]
              show some (HO.lst ((xs.map fun k : Nat => V.int (k : Int)) ++ [V.int (1 + (j : Int))])) = some (HO.lst ((xs.map fun k : Nat => V.int (k : Int)) ++ [V.int ((1 + j : Nat) : Int)]))
              rw [show ((1 + j : Nat) : Int) = 1 + (j : Int) by omega]
            · rw [List.mem_append, List.mem_singleton, mxs k]
              constructor
              · rintro (⟨a1, a2, a3⟩ | rfl)
                · exact ⟨a1, by omega, a3⟩
                · exact ⟨by omega, by omega, by omega⟩
              · rintro ⟨a1, a2, a3⟩
                rcases Nat.lt_or_ge j k with g | g
                · exact .inr (by omega)
                · exact .inl ⟨a1, g, a3⟩
          · have e : ¬ V.int ((doneS Tb (colF Fl, u) (1 + j) : Nat) : Int) = V.int 0 := fun z => e (decide_eq_true z)
            refine ⟨s7, xs, hD, by omega, fun k => ?_⟩
            rw [mxs k]
            constructor
            · rintro ⟨a1, a2, a3⟩
              exact ⟨a1, by omega, a3⟩
            · rintro ⟨a1, a2, a3⟩
              refine ⟨a1, ?_, a3⟩
              rcases Nat.lt_or_ge j k with g | g
              · obtain rfl : k = 1 + j := by omega
                exact absurd (by rw [a3]; rfl) e
              · exact g
          -- >C1
        · rintro H7 ⟨s7, xs, hD, lxs, mxs⟩
          rw [show ((stp : Int) + 1 - 1).toNat = stp by omega] at lxs mxs
          refine gname_seq ?_
          simp only [List.set_cons_zero, List.set_cons_succ]
          have stand7 := stand6.mono (Same.tk s7)
          have R7 := R6.same s7
          have hpv7 := Tp.mono (Same.tk s7) _ _ hpv6
          have hL7 := s7 _ _ hL6
          have hvs7 := TpAll.mono (Same.tk s7) _ _ hvs
          have rowAt7 : ∀ k, k ≤ stp → ∃ (F : List Sq) (ra : Addr) (fe we : V), Fs[k]? = some F ∧ FloorOf (itS Tb (colF Fl, u) k).1 F ∧ F.length ≤ 4 + k ∧ vs[k]? = some (.ref ra) ∧ SqT K H7 ra [fe, we, .int (doneS Tb (colF Fl, u) k)] ∧ Tp K H7 fe (floorD F) ∧ Tp K H7 we (wkD (itS Tb (colF Fl, u) k).2) := fun k kl => by
            obtain ⟨F1, ra, fe, we, a1, a2, a3, a4, a5, a6, a7⟩ := rowAt k kl
            exact ⟨F1, ra, fe, we, a1, a2, a3, a4, (Same.tk s7).seqT a5, Tp.mono (Same.tk s7) _ _ a6, Tp.mono (Same.tk s7) _ _ a7⟩
          clear stand6 R6 hpv6 hL6 hvs rowAt nD nDL
          refine seq_cutO (fun σ' H' => σ' = [some (.ref a), some (.ref r), some tv, some fv, some wv, y5, y6, y7, y8, some (.int (stp : Int)), some pv, y11, some (.ref Lp), some endv, y14, some (.ref D), none, none, none, none, none, none, none] ∧ Same H7 H') ?_ ?_
          rotate_left
          -- <D1
          · intro R hR
            have sok := stand7.ok
            have tT := stand7.tT
            have tF := stand7.tF
            have tW := stand7.tW
            cases o with
            | none =>
              obtain rfl := (show Tp K H7 pv .none from hpv7).nonI
              walk_at "st"
              refine ite2 (fun e => absurd e (by simp)) (fun _ => ?_)
              refine iteF ?_
              exact nx_of (hR _ _ ⟨rfl, Same.refl _⟩)
            | some p =>
              obtain ⟨po, rp, lp⟩ := FoundAt.ok fo (by omega)
              have hpp : Tp K H7 pv (papD p) := hpv7
              obtain ⟨pa, rfl⟩ := pap_ref hpp
              have l3 : Fl.length + p.2.1 + p.2.2 ≤ 3000 := by omega
              walk_at "st"
              intro b H8 hb s8
              obtain rfl : b = true := hb.mpr rp
              walk_at "st"
              exact nx_of (hR _ _ ⟨rfl, s8⟩)
          -- >D1
          · rintro σ' H8 ⟨rfl, s8⟩
            have stand8 := stand7.mono (Same.tk s8)
            have R8 := R7.same s8
            have hpv8 := Tp.mono (Same.tk s8) _ _ hpv7
            have hL8 := s8 _ _ hL7
            have hD8 := s8 _ _ hD
            have hvs8 := TpAll.mono (Same.tk s8) _ _ hvs7
            have rowAt8 : ∀ k, k ≤ stp → ∃ (F : List Sq) (ra : Addr) (fe we : V), Fs[k]? = some F ∧ FloorOf (itS Tb (colF Fl, u) k).1 F ∧ F.length ≤ 4 + k ∧ vs[k]? = some (.ref ra) ∧ SqT K H8 ra [fe, we, .int (doneS Tb (colF Fl, u) k)] ∧ Tp K H8 fe (floorD F) ∧ Tp K H8 we (wkD (itS Tb (colF Fl, u) k).2) := fun k kl => by
              obtain ⟨F1, ra, fe, we, a1, a2, a3, a4, a5, a6, a7⟩ := rowAt7 k kl
              exact ⟨F1, ra, fe, we, a1, a2, a3, a4, (Same.tk s8).seqT a5, Tp.mono (Same.tk s8) _ _ a6, Tp.mono (Same.tk s8) _ _ a7⟩
            clear stand7 R7 hpv7 hL7 hD hvs7 rowAt7 s8 s7
            have fit0 : Fit c n 3 (colF Fl, u) := stand8.ok.fit
            have tab := stand8.tab
            refine seq_cutO (fun σ' H' => (∃ y21, σ' = [some (.ref a), some (.ref r), some tv, some fv, some wv, y5, y6, y7, y8, some (.int (stp : Int)), some pv, y11, some (.ref Lp), some endv, y14, some (.ref D), none, none, none, none, none, y21, none]) ∧ Same H8 H' ∧ ∀ k, k ≤ stp → stepW Tb (itS Tb (colF Fl, u) k) ≠ none) ?_ ?_
            rotate_left
            -- <E
            · intro R hR
              have dpx := dp_nats (K := K) hD8
              have sx := shp_lints (xs.map fun k : Nat => (k : Int))
              have sn : SeqAt.shaped (.list []) = true := by decide +kernel
              have eqx := eqv_nil ((xs.map fun k : Nat => (k : Int)).map PyData.int)
              walk_at "st"
              intro ne nne
              have s9 : Same H8 (upd H8 ne (.lst [])) := Same.new nne
              have dpn : Dp K (upd H8 ne (.lst [])) (.ref ne) (.list []) := .lst (SqL.of upd_same) .nil
              generalize hH9 : upd H8 ne (.lst []) = H9 at *
              have dpx9 := Dp.mono s9 _ _ dpx
              walk_at "st"
              rw [eqx]
              refine ite2 (fun e => ?_) (fun e => ?_)
              · have hne : xs ≠ [] := fun z => by
                  rw [z] at e
                  simp at e
                obtain ⟨k, hk⟩ := List.exists_mem_of_ne_nil xs hne
                obtain ⟨k1, k2, k3⟩ := (mxs k).mp hk
                obtain ⟨k', rfl⟩ : ∃ k', k = k' + 1 := ⟨k - 1, by omega⟩
                have hk3 : stepW Tb (itS Tb (colF Fl, u) k') = none := by
                  refine Classical.byContradiction fun z => ?_
                  have k3 : (if stepW Tb (itS Tb (colF Fl, u) k') = none then 0 else 1) = 0 := k3
                  rw [if_neg z] at k3
                  cases k3
                obtain ⟨p, rfl⟩ := stopped_found fo ⟨k', by omega, hk3⟩
                obtain ⟨pa, rfl⟩ := pap_ref (p := p) hpv8
                refine iteT ?_
                walk_at "st"
                exact q _
              · have hnil : xs = [] := by
                  refine Classical.byContradiction fun z => e ?_
                  rw [decide_eq_false (fun y => z (by simpa using y))]
                  rfl
                have going : ∀ k, k < stp → stepW Tb (itS Tb (colF Fl, u) k) ≠ none := fun k kl z => by
                  have m := (mxs (k + 1)).mpr ⟨by omega, by omega, by
                    show (if stepW Tb (itS Tb (colF Fl, u) k) = none then 0 else 1) = 0
                    rw [if_pos z]⟩
                  rw [hnil] at m
                  exact absurd m List.not_mem_nil
                have stand9 := stand8.mono (Same.tk s9)
                have R9 := R8.same s9
                have hpv9 := Tp.mono (Same.tk s9) _ _ hpv8
                obtain ⟨F0, ra, fe, we, _, f0, lf0, er, hra, hfe, hwe⟩ := rowAt8 stp (Nat.le_refl _)
                rw [ev] at er
                cases er
                have hra9 := (Same.tk s9).seqT hra
                have hfe9 := Tp.mono (Same.tk s9) _ _ hfe
                have hwe9 := Tp.mono (Same.tk s9) _ _ hwe
                obtain ⟨fa, fvs, rfl, hfa, hfvs⟩ := (show Tp K H9 fe (.tuple (F0.map sqD)) from hfe9).tupI
                have lfv : fvs.length = F0.length := by rw [TpAll.length hfvs, List.length_map]
                clear dpx dpx9 dpn sx sn eqx hra hfe hwe hH9 nne
                walk_at "st"
                intro M nM
                refine lc_it (walk_tup (K := K) (a := fa) (xs := fvs)) (fun j H2 => Ok (Same H9 H2 ∧ ∃ ps : List PKV, H2 M = some (.lst (ps.map fun x => .ref x.1)) ∧ ps.length = j ∧ (∀ x ∈ ps, PkOk H2 x) ∧ ps.map (fun x => (x.2.2.1, x.2.2.2)) = (F0.take j).map (fun s => (ptK s.pt, V.int s.2.2))))
                  ⟨Same.new nM, [], upd_same, rfl, fun x hx => absurd hx List.not_mem_nil, rfl⟩ (fun j H2 _ ⟨s2, _⟩ => TK.seqT (Same.tk s2) hfa) ?_ ?_
                · rintro j x H2 H3 hj ⟨s2, ps, hM, lps, pk, ep⟩ ⟨rfl, hx⟩
                  obtain ⟨s, hsF, hz⟩ := SqV.get hfvs hx
                  have hz := Tp.mono (Same.tk s2) _ _ hz
                  obtain ⟨b, rfl, hsb⟩ := hz.int3
                  walk_at "st"
                  intro p np
                  have s3 : Same H3 (upd H3 p (.tup [.int s.1, .int s.2.1])) := Same.new np
                  have hsb3 := TK.seqT (Same.tk s3) hsb
                  walk_at "st"
                  intro p2 np2
                  have s4 : Same H3 (upd (upd H3 p (.tup [.int s.1, .int s.2.1])) p2 (.tup [.ref p, .int s.2.2])) := Same.trans s3 (Same.new np2)
                  have hM4 := s4 _ _ hM
                  have hp4 : (upd (upd H3 p (.tup [.int s.1, .int s.2.1])) p2 (.tup [.ref p, .int s.2.2])) p = some (.tup [.int s.1, .int s.2.1]) := Same.new np2 _ _ upd_same
                  have hsz : (ps.map fun x => V.ref x.1).length < sizeLine := by
                    rw [List.length_map]
                    exact small1000 (by omega)
                  have neM : ∀ b xs, (upd (upd H3 p (.tup [.int s.1, .int s.2.1])) p2 (.tup [.ref p, .int s.2.2])) b = some (.tup xs) → (upd (upd (upd H3 p (.tup [.int s.1, .int s.2.1])) p2 (.tup [.ref p, .int s.2.2])) M (.lst ((ps.map fun x => V.ref x.1) ++ [.ref p2]))) b = some (.tup xs) := fun b xs e => by
                    rw [upd_ne (ne_of e hM4 (by intro z; cases z))]
                    exact e
                  refine ⟨_, hM4, hsz, Same.fresh (Same.trans s2 s4) nM, ps ++ [(p2, p, ptK s.pt, .int s.2.2)], by rw [upd_same, List.map_append]; rfl, by rw [List.length_append, lps]; rfl, fun x hx => ?_, ?_⟩
                  · rcases List.mem_append.mp hx with h | h
                    · obtain ⟨k1, k2⟩ := pk x h
                      exact ⟨neM _ _ (s4 _ _ k1), neM _ _ (s4 _ _ k2)⟩
                    · rw [List.mem_singleton.mp h]
                      exact ⟨neM _ _ upd_same, neM _ _ hp4⟩
                  · rw [take_more hsF, List.map_append, List.map_append, ep]
                    rfl
                · rintro H10 ⟨s10, ps, hM, lps, pk, ep⟩
                  rw [lfv, List.take_length] at ep
                  refine ⟨M, ps, rfl, SqL.of hM, pk, fun Dc nDc => ?_⟩
                  have hDc : (upd H10 Dc (.dT (putAllK [] ps))) Dc = some (.dT (cellK (cellsOf F0))) := by
                    rw [upd_same, show putAllK [] ps = cellK (cellsOf F0) from putAll_cells (G := []) ep (asc_nd f0.asc)]
                  have s11 : Same H9 (upd H10 Dc (.dT (putAllK [] ps))) := Same.trans s10 (Same.new nDc)
                  have nDc9 : H9 Dc = none := Same.back s10 nDc
                  generalize hH11 : upd H10 Dc (.dT (putAllK [] ps)) = H11 at hDc s11
                  clear pk ep hM hfa hfvs hH11 nDc
                  have t11 := Same.tk s11
                  have hra11 := t11.seqT hra9
                  have hwe11 := Tp.mono t11 _ _ hwe9
                  have stand11 := stand9.mono t11
                  have hpv11 := Tp.mono t11 _ _ hpv9
                  have tT := stand11.tT
                  have ndc := asc_nd f0.asc
                  have lmc : (cellsOf F0).length ≤ 4000 := by
                    unfold cellsOf
                    rw [List.length_map]
                    omega
                  have ez : (col (cellsOf F0), (itS Tb (colF Fl, u) stp).2) = itS Tb (colF Fl, u) stp := Prod.ext f0.col rfl
                  have fitE := itS_fit tab fit0 stp
                  rw [← ez] at fitE
                  walk_at "st"
                  rw [ez]
                  refine ⟨fun st H12 s12 => ?_, fun z st v H12 m' _ _ _ hD12 hv12 k12 => ?_⟩
                  · obtain ⟨p, rfl⟩ := stopped_found fo ⟨stp, Nat.le_refl _, st⟩
                    obtain ⟨pa, rfl⟩ := pap_ref (p := p) hpv11
                    walk_at "st"
                    exact q _
                  · obtain ⟨b, rfl, _⟩ := hv12.int4
                    walk_at "st"
                    refine nx_of (hR _ _ ⟨⟨_, rfl⟩, fun b o e => k12 _ _ (fun y => ?_) (s11 _ _ (s9 _ _ e)), fun k kl => ?_⟩)
                    · rw [List.mem_singleton.mp y, Same.back s9 nDc9] at e
                      cases e
                    · rcases Nat.lt_or_ge k stp with g | g
                      · exact going k g
                      · obtain rfl : k = stp := by omega
                        rw [st]
                        intro y
                        cases y
            -- >E
            · rintro σ' H9 ⟨⟨y21, rfl⟩, s9, going⟩
              have stand9 := stand8.mono (Same.tk s9)
              have R9 := R8.same s9
              have hpv9 := Tp.mono (Same.tk s9) _ _ hpv8
              have hL9 := s9 _ _ hL8
              have hvs9 := TpAll.mono (Same.tk s9) _ _ hvs8
              have rowAt9 : ∀ k, k ≤ stp → ∃ (F : List Sq) (ra : Addr) (fe we : V), Fs[k]? = some F ∧ vs[k]? = some (.ref ra) ∧ SqT K H9 ra [fe, we, .int (doneS Tb (colF Fl, u) k)] ∧ Tp K H9 fe (floorD F) ∧ Tp K H9 we (wkD (itS Tb (colF Fl, u) k).2) := fun k kl => by
                obtain ⟨F1, ra, fe, we, a1, a2, a3, a4, a5, a6, a7⟩ := rowAt8 k kl
                exact ⟨F1, ra, fe, we, a1, a4, (Same.tk s9).seqT a5, Tp.mono (Same.tk s9) _ _ a6, Tp.mono (Same.tk s9) _ _ a7⟩
              clear stand8 R8 hpv8 hL8 hD8 hvs8 rowAt8 s9
              have hSL9 := SqL.of (K := K) hL9
              walk_at "st"
              intro S nS
              refine lc_it (walk_list (K := K) (a := Lp) (xs := vs)) (fun j H' => Ok (Same H9 H' ∧ ∃ qs : List V, H' S = some (.lst qs) ∧ qs.length = j ∧ TpAll K H' qs (standsD Tb (colF Fl, u) (Fs.take j)))) ⟨Same.new nS, [], upd_same, rfl, .nil⟩ (fun j H' _ ⟨sm, _⟩ => SqL.of (sm _ _ hL9)) ?_ ?_
              · rintro j x H10 H11 hj ⟨s10, qs, hS, lqs, hqs⟩ ⟨rfl, hx⟩
                -- <F1
                obtain ⟨F1, ra, fe, we, eF, er, hra, hfe, hwe⟩ := rowAt9 j (by omega)
                rw [er] at hx
                cases hx
                have hra10 := (Same.tk s10).seqT hra
                have tk1 := take_more eF
                have hsz : qs.length < sizeLine := small1000 (by omega)
                walk_at "st"
                intro p np
                rw [show cutV [fe, we, .int ((doneS Tb (colF Fl, u) j : Nat) : Int)] none (some 2) = [fe, we] from rfl]
                have s12 : Same H11 (upd H11 p (.tup [fe, we])) := Same.new np
                have hp : SqT K (upd H11 p (.tup [fe, we])) p [fe, we] := SqT.of upd_same
                generalize hH12 : upd H11 p (.tup [fe, we]) = H12 at *
                have hS12 := s12 _ _ hS
                have t13 : TK H12 (upd H12 S (.lst (qs ++ [.ref p]))) := TK.lst hS12
                have t11 := Same.tk (Same.trans s10 s12)
                refine ⟨_, hS12, hsz, Same.fresh (Same.trans s10 s12) nS, qs ++ [.ref p], upd_same, by rw [List.length_append, lqs]; rfl, ?_⟩
                have ltk : (Fs.take j).length = j := by
                  rw [List.length_take]
                  have := (List.getElem?_eq_some_iff.mp eF).1
                  omega
                rw [tk1, standsD_more, ltk]
                exact TpAll.append (TpAll.mono ((Same.tk s12).trans t13) _ _ hqs) (.cons (.tup (t13.seqT hp) (.cons (Tp.mono (t11.trans t13) _ _ hfe) (.cons (Tp.mono (t11.trans t13) _ _ hwe) .nil))) .nil)
                -- >F1
              · rintro H10 ⟨s10, qs, hS, lqs, hqs⟩
                rw [lvs] at lqs
                rw [lvs, show stp + 1 = Fs.length from ro.len.symm, List.take_length] at hqs
                have stand10 := stand9.mono (Same.tk s10)
                have R10 := R9.same s10
                have hpv10 := Tp.mono (Same.tk s10) _ _ hpv9
                have hSS := SqL.of (K := K) hS
                clear stand9 R9 hpv9 hL9 hvs9 rowAt9 hSL9 nS s10 stp1 stp2 b9 l0 l1 l2
                walk_at "st"
                intro A nA
                refine lc_range (lo := 1) (n := ((qs.length : Int) - 1).toNat) (fun j H' => Ok (Same H10 H' ∧ ∃ xs : List Nat, H' A = some (.lst (xs.map fun k : Nat => V.int (k : Int))) ∧ xs.length ≤ j ∧ xs.Pairwise (· < ·) ∧ ∀ k, k ∈ xs ↔ 1 ≤ k ∧ k ≤ j ∧ ∃ i, i < k ∧ itS Tb (colF Fl, u) i = itS Tb (colF Fl, u) k)) ⟨Same.new nA, [], upd_same, Nat.le_refl _, List.Pairwise.nil, fun k => ⟨fun h => absurd h List.not_mem_nil, fun h => by omega⟩⟩ ?_ ?_
                · rintro j H11 hj ⟨s11, ys, hA, lys, pys, mys⟩
                  -- <F2
                  have hj : 1 + j ≤ stp := by
                    clear mys lys pys hA mxs lxs going
                    rw [lqs] at hj
                    omega
                  obtain ⟨F1, e1⟩ : ∃ F1, Fs[1 + j]? = some F1 := by
                    have kF : 1 + j < Fs.length := by
                      rw [ro.len]
                      exact Nat.lt_succ_of_le hj
                    exact ⟨_, List.getElem?_eq_getElem kF⟩
                  obtain ⟨q1, eq1, hq1⟩ := hqs.get (standsD_at e1)
                  have anyS := any_stand ro e1
                  have hat : atI qs (1 + (j : Int)) = some q1 := by
                    rw [show 1 + (j : Int) = ((1 + j : Nat) : Int) by omega]
                    exact atI_nat eq1
                  have hSS11 := SqL.of (K := K) (s11 _ _ hS)
                  have hsz : (ys.map fun k : Nat => V.int (k : Int)).length < sizeLine := small1000 (by rw [List.length_map]; omega)
                  walk_at "st"
                  intro sl nsl
                  rw [cutK qs j]
                  have s12 : Same H11 (upd H11 sl (.lst (qs.take (1 + j)))) := Same.new nsl
                  have hsl : (upd H11 sl (.lst (qs.take (1 + j)))) sl = some (.lst (qs.take (1 + j))) := upd_same
                  generalize hH12 : upd H11 sl (.lst (qs.take (1 + j))) = H12 at *
                  have dq1 := Tp.dp _ _ (Tp.mono (Same.tk (Same.trans s11 s12)) _ _ hq1)
                  have dsl : Dp K H12 (.ref sl) (.list ((standsD Tb (colF Fl, u) Fs).take (1 + j))) := .lst (SqL.of hsl) (TpAll.dp _ _ (tpAll_take (TpAll.mono (Same.tk (Same.trans s11 s12)) _ _ hqs) (1 + j)))
                  have sh1 := shp_step F1 (itS Tb (colF Fl, u) (1 + j)).2
                  have sh2 : SeqAt.shaped (.list ((standsD Tb (colF Fl, u) Fs).take (1 + j))) = true := shp_stands fun d hd => standsD_form (List.mem_of_mem_take hd)
                  have hA12 := s12 _ _ hA
                  clear hH12 nsl
                  walk_at "st"
                  refine ite2 (fun e => ?_) (fun e => ?_)
                  · have e := anyS.mp e
                    walk_at "st"
                    refine ⟨Same.fresh (Same.trans s11 s12) nA, ys ++ [1 + j], ?_, by rw [List.length_append]; exact Nat.succ_le_succ lys, ?_, fun k => ?_⟩
                    · rw [upd_same, List.map_append]
                      show some (HO.lst ((ys.map fun k : Nat => V.int (k : Int)) ++ [V.int (1 + (j : Int))])) = some (HO.lst ((ys.map fun k : Nat => V.int (k : Int)) ++ [V.int ((1 + j : Nat) : Int)]))
                      rw [show ((1 + j : Nat) : Int) = 1 + (j : Int) by omega]
                    · refine List.pairwise_append.mpr ⟨pys, List.pairwise_singleton _ _, fun x hx y hy => ?_⟩
                      rw [List.mem_singleton.mp hy]
                      have := ((mys x).mp hx).2.1
                      omega
                    · rw [List.mem_append, List.mem_singleton, mys k]
                      constructor
                      · rintro (⟨a1, a2, a3⟩ | rfl)
                        · exact ⟨a1, Nat.le_succ_of_le a2, a3⟩
                        · exact ⟨Nat.le_add_right 1 j, by rw [Nat.add_comm]; exact Nat.le_refl _, e⟩
                      · rintro ⟨a1, a2, a3⟩
                        rcases Nat.lt_or_ge j k with g | g
                        · exact .inr (by omega)
                        · exact .inl ⟨a1, g, a3⟩
                  · have e := fun z => e (anyS.mpr z)
                    refine ⟨Same.trans s11 s12, ys, hA12, Nat.le_succ_of_le lys, pys, fun k => ?_⟩
                    rw [mys k]
                    constructor
                    · rintro ⟨a1, a2, a3⟩
                      exact ⟨a1, Nat.le_succ_of_le a2, a3⟩
                    · rintro ⟨a1, a2, a3⟩
                      refine ⟨a1, ?_, a3⟩
                      rcases Nat.lt_or_ge j k with g | g
                      · obtain rfl : k = 1 + j := by omega
                        exact absurd a3 e
                      · exact g
                  -- >F2
                · rintro H11 ⟨s11, ys, hA, lys, pys, mys⟩
                  rw [show ((qs.length : Int) - 1).toNat = stp by rw [lqs]; omega] at mys lys
                  refine gname_seq ?_
                  simp only [List.set_cons_zero, List.set_cons_succ]
                  have stand11 := stand10.mono (Same.tk s11)
                  have R11 := R10.same s11
                  have hpv11 := Tp.mono (Same.tk s11) _ _ hpv10
                  have hS11 := s11 _ _ hS
                  have hqs11 := TpAll.mono (Same.tk s11) _ _ hqs
                  clear stand10 R10 hpv10 hS hqs hSS nA s11
                  refine seq_cutO (fun σ' H' => σ' = [some (.ref a), some (.ref r), some tv, some fv, some wv, y5, y6, y7, y8, some (.int (stp : Int)), some pv, y11, some (.ref Lp), some endv, y14, some (.ref D), some (.ref S), some (.ref A), none, none, none, y21, none] ∧ Same H11 H') ?_ ?_
                  rotate_left
                  -- <G
                  · intro R hR
                    have dpy := dp_nats (K := K) hA
                    have sy := shp_lints (ys.map fun k : Nat => (k : Int))
                    have sn : SeqAt.shaped (.list []) = true := by decide +kernel
                    have eqy := eqv_nil ((ys.map fun k : Nat => (k : Int)).map PyData.int)
                    walk_at "st"
                    intro ne nne
                    have s12 : Same H11 (upd H11 ne (.lst [])) := Same.new nne
                    have dpn : Dp K (upd H11 ne (.lst [])) (.ref ne) (.list []) := .lst (SqL.of upd_same) .nil
                    generalize hH12 : upd H11 ne (.lst []) = H12 at *
                    have dpy12 := Dp.mono s12 _ _ dpy
                    walk_at "st"
                    rw [eqy]
                    refine ite2 (fun e => ?_) (fun e => ?_)
                    · cases o with
                      | some p =>
                        obtain ⟨pa, rfl⟩ := pap_ref (p := p) hpv11
                        walk_at "st"
                        exact nx_of (hR _ _ ⟨rfl, s12⟩)
                      | none =>
                        obtain rfl := (show Tp K H11 pv .none from hpv11).nonI
                        cases ys with
                        | nil => exact absurd e (by simp)
                        | cons k0 rest =>
                          obtain ⟨k01, k02, i0, i0l, ei0⟩ := (mys k0).mp List.mem_cons_self
                          obtain ⟨tl, tlk, etl, ltl⟩ : ∃ d, d ≤ i0 ∧ itS Tb (colF Fl, u) d = itS Tb (colF Fl, u) k0 ∧ ∀ j, j < d → itS Tb (colF Fl, u) j ≠ itS Tb (colF Fl, u) k0 := least_at (Q := fun d => itS Tb (colF Fl, u) d = itS Tb (colF Fl, u) k0) i0 ei0
                          have eAt : ∀ k, k ≤ stp → ∃ F1, Fs[k]? = some F1 := fun k kl => by
                            have kF : k < Fs.length := by
                              rw [ro.len]
                              exact Nat.lt_succ_of_le kl
                            exact ⟨_, List.getElem?_eq_getElem kF⟩
                          obtain ⟨Fk, eFk⟩ := eAt k0 k02
                          obtain ⟨Ft, eFt⟩ := eAt tl (by omega)
                          obtain ⟨qk, eqk, hqk⟩ := hqs11.get (standsD_at eFk)
                          have at0' : atI ((k0 :: rest).map fun k : Nat => V.int (k : Int)) 0 = some (.int (k0 : Int)) := atI_nat (j := 0) rfl
                          have atk : atI qs (k0 : Int) = some qk := atI_nat eqk
                          have hA12 := s12 _ _ hA
                          have hSA := SqL.of (K := K) hA12
                          have hS12 := s12 _ _ hS11
                          have hSS12 := SqL.of (K := K) hS12
                          have dS : Dp K H12 (.ref S) (.list (standsD Tb (colF Fl, u) Fs)) := .lst hSS12 (TpAll.dp _ _ (TpAll.mono (Same.tk s12) _ _ hqs11))
                          have dk := Tp.dp _ _ (Tp.mono (Same.tk s12) _ _ hqk)
                          have shS : SeqAt.shaped (.list (standsD Tb (colF Fl, u) Fs)) = true := shp_stands fun d hd => standsD_form hd
                          have shk := shp_step Fk (itS Tb (colF Fl, u) k0).2
                          have zt := standsD_at (T := Tb) (z0 := (colF Fl, u)) eFt
                          have et2 := (stand_eq ro eFt eFk).mpr etl
                          have no2 : ∀ (m : Nat) (z' : PyData), m < tl → (standsD Tb (colF Fl, u) Fs)[m]? = some z' → PyData.eqv z' (stepD Fk (itS Tb (colF Fl, u) k0).2) = false := fun m z' ml hz => by
                            obtain ⟨Fm, eFm⟩ := eAt m (by omega)
                            rw [standsD_at eFm] at hz
                            rw [← Option.some.inj hz, Bool.eq_false_iff]
                            exact fun y => ltl m ml ((stand_eq ro eFm eFk).mp y)
                          have c1 : CMul 4 (tl : Int) := .inl ⟨by decide, by decide⟩
                          have c2 : CMul 4 ((k0 : Int) - (tl : Int)) := .inl ⟨by decide, by decide⟩
                          have goal : ¬ ((stp : Int) < 4 * (tl : Int)) → (stp : Int) < 4 * ((k0 : Int) - (tl : Int)) := fun h1 => by
                            refine Classical.byContradiction fun h2 => ?_
                            obtain ⟨p0, hp0⟩ : ∃ p0, k0 = tl + p0 := ⟨k0 - tl, by omega⟩
                            subst hp0
                            obtain ⟨x, hx⟩ := round_found (p := p0) (tail := tl) fit0 (fun k kl => itS_run (N := stp) (fun k kl => going k (by omega)) k kl) etl.symm (by omega) k02 (fun i j ij jl hij => by
                              have m := (mys j).mpr ⟨by omega, by omega, i, ij, hij⟩
                              rcases List.mem_cons.mp m with g | g
                              · omega
                              · have := (List.pairwise_cons.mp pys).1 j g
                                omega) (by omega) (by omega) (by omega) fo
                            cases hx
                          clear dpy dpy12 dpn sn sy eqy hH12 mys
                          have bag := goal
                          clear goal
                          walk_at "st"
                          refine ite2 (fun _ => q _) (fun e => ?_)
                          have h2 := bag (fun z => e (decide_eq_true z))
                          clear bag
                          walk_at "st"
                          show Q (V.bl (decide ((stp : Int) < 4 * ((k0 : Int) - (tl : Int))))) H12
                          rw [decide_eq_true h2]
                          exact q _
                    · walk_at "st"
                      exact nx_of (hR _ _ ⟨rfl, s12⟩)
                  -- >G
                  · rintro σ' H12 ⟨rfl, s12⟩
                    cases o with
                    | none =>
                      obtain rfl := (show Tp K H11 pv .none from hpv11).nonI
                      walk_at "st"
                      exact q _
                    | some p =>
                      have stand12 := stand11.mono (Same.tk s12)
                      have hpp : Tp K H12 pv (papD p) := Tp.mono (Same.tk s12) _ _ hpv11
                      obtain ⟨po, rp, lp⟩ := FoundAt.ok fo (by omega)
                      have nst : p.1 ≠ .stops := fun z => by
                        obtain ⟨z1, z2, a1, a2, _, _, a3⟩ := rp
                        rw [z] at a3
                        have a3 : stepW Tb z2 = none := a3
                        have r2 : runW Tb (p.2.1 + p.2.2) (colF Fl, u) = some z2 := by
                          rw [runW_add, a1.run]
                          exact a2.run
                        have r3 := itS_run (N := stp) (fun k kl => going k (by omega)) (p.2.1 + p.2.2) lp
                        rw [r2] at r3
                        rw [Option.some.inj r3] at a3
                        exact going _ lp a3
                      have p1 := po.p1 nst
                      obtain ⟨Y, hY⟩ : ∃ Y, Inf Tb (colF Fl, u) Y := by
                        obtain ⟨kd, f, per⟩ := p
                        cases kd with
                        | stops => exact absurd rfl nst
                        | round => exact inf_round p1 rp
                        | street => exact inf_street p1 rp
                      have e3 := pap3 nst
                      rw [e3] at hpp
                      obtain ⟨pa, xs1, rfl, hpa, hx⟩ := hpp.tupI
                      obtain ⟨v1, xs1, rfl, h1, hx⟩ := hx.consI
                      obtain ⟨v2, xs1, rfl, h2, hx⟩ := hx.consI
                      obtain ⟨v4, xs1, rfl, h3, hx⟩ := hx.consI
                      obtain rfl := hx.nilI
                      cases h1
                      obtain rfl := h2.intI
                      obtain rfl := h3.intI
                      have hpq : Tp K H12 (.ref pa) (papD p) := Tp.mono (Same.tk s12) _ _ hpv11
                      have sok := stand12.ok
                      have tT := stand12.tT
                      have tF := stand12.tF
                      have tW := stand12.tW
                      have lF4 := stand12.lF
                      have l3 : Fl.length + p.2.1 + p.2.2 ≤ 3000 := by omega
                      have l0 : Fl.length ≤ 1000 := by omega
                      have b9 : (3 : Int) ≤ 1000000000 := by decide
                      clear h2 h3 hx stand11 hpv11 hS11 hqs11 hpp mys lys pys mxs lxs
                      walk_at "st"
                      intro sv H13 fs lfs _ prop hsv s13
                      obtain ⟨pr1, pr2⟩ := prop Y nst hY
                      have rs : HoldsAt Tb (colF Fl, u) (p.1, fs, p.2.2) := hY.sooner fit0 nst p1 lfs rp pr1
                      have e4 : papD (p.1, fs, p.2.2) = .tuple [.str p.1.nm, .int (fs : Int), .int (p.2.2 : Int)] := pap3 (p := (p.1, fs, p.2.2)) nst
                      have hsq := hsv
                      rw [e4] at hsq
                      obtain ⟨sa, xs1, rfl, hsa, hx⟩ := hsq.tupI
                      obtain ⟨v1, xs1, rfl, h1, hx⟩ := hx.consI
                      obtain ⟨v2, xs1, rfl, h2, hx⟩ := hx.consI
                      obtain ⟨v4, xs1, rfl, h3, hx⟩ := hx.consI
                      obtain rfl := hx.nilI
                      cases h1
                      obtain rfl := h2.intI
                      obtain rfl := h3.intI
                      have stand13 := stand12.mono (Same.tk s13)
                      have hpa13 := (Same.tk s13).seqT hpa
                      have sok := stand13.ok
                      have tT := stand13.tT
                      have tF := stand13.tF
                      have tW := stand13.tW
                      have pos : PapOk (p.1, fs, p.2.2) := ⟨Nat.le_trans lfs po.f, po.st, po.p1, po.p2⟩
                      have l4 : Fl.length + (p.1, fs, p.2.2).2.1 + (p.1, fs, p.2.2).2.2 ≤ 3000 := by
                        show Fl.length + fs + p.2.2 ≤ 3000
                        omega
                      clear h2 h3 hx stand12 hpa hsq prop hpq l3
                      walk_at "st"
                      intro b H14 hb s14
                      obtain rfl : b = true := hb.mpr rs
                      have stand14 := stand13.mono (Same.tk s14)
                      have hpa14 := (Same.tk s14).seqT hpa13
                      have hsa14 := (Same.tk s14).seqT hsa
                      clear stand13 hpa13 hsa sok tT tF tW hb hsv
                      walk_at "st"
                      refine ite2 (fun e => absurd e (by simp)) (fun _ => ?_)
                      refine next_seq ?_
                      simp only [List.set_cons_zero, List.set_cons_succ]
                      walk_at "st"
                      refine ⟨sl3b _ _ _, ?_⟩
                      intro t1 nt1
                      rw [show cutV [.str p.1.nm, .int (fs : Int), .int (p.2.2 : Int)] (some 2) none = [.int (p.2.2 : Int)] from rfl]
                      have s15 : Same H14 (upd H14 t1 (.tup [.int (p.2.2 : Int)])) := Same.new nt1
                      have ht1 : Tp K (upd H14 t1 (.tup [.int (p.2.2 : Int)])) (.ref t1) (.tuple [.int (p.2.2 : Int)]) := .tup (SqT.of upd_same) (.cons (.int _) .nil)
                      generalize hH15 : upd H14 t1 (.tup [.int (p.2.2 : Int)]) = H15 at *
                      have hpa15 := (Same.tk s15).seqT hpa14
                      walk_at "st"
                      refine ⟨sl3b _ _ _, ?_⟩
                      intro t2 nt2
                      rw [show cutV [.str p.1.nm, .int (p.2.1 : Int), .int (p.2.2 : Int)] (some 2) none = [.int (p.2.2 : Int)] from rfl]
                      have s16 : Same H15 (upd H15 t2 (.tup [.int (p.2.2 : Int)])) := Same.new nt2
                      have ht2 : Tp K (upd H15 t2 (.tup [.int (p.2.2 : Int)])) (.ref t2) (.tuple [.int (p.2.2 : Int)]) := .tup (SqT.of upd_same) (.cons (.int _) .nil)
                      generalize hH16 : upd H15 t2 (.tup [.int (p.2.2 : Int)]) = H16 at *
                      have s46 := Same.trans s15 s16
                      have d1 := Tp.dp _ _ (Tp.mono (Same.tk s16) _ _ ht1)
                      have d2 := Tp.dp _ _ ht2
                      have sh : SeqAt.shaped (.tuple [.int (p.2.2 : Int)]) = true := shpI [(p.2.2 : Int)]
                      have stand16 := stand14.mono (Same.tk s46)
                      have hsa16 := (Same.tk s46).seqT hsa14
                      clear hH15 hH16 nt1 nt2 ht1 ht2 s15 s16 hpa15 hpa14 hsa14 stand14
                      walk_at "st"
                      have eqp : PyData.eqv (.tuple [.int (p.2.2 : Int)]) (.tuple [.int (p.2.2 : Int)]) = true := (eqvT [(p.2.2 : Int)] [(p.2.2 : Int)]).trans (decide_eq_true rfl)
                      rw [eqp]
                      walk_at "st"
                      refine ite2 (fun _ => q _) (fun e => ?_)
                      have fs0 : fs ≠ 0 := fun z => e (by rw [z]; exact decide_eq_true rfl)
                      have sok := stand16.ok
                      walk_at "st"
                      intro t3 nt3
                      have s17 : Same H16 (upd H16 t3 (.tup [.str p.1.nm, .int ((fs : Int) - 1)])) := Same.new nt3
                      have ht3 : SqT K (upd H16 t3 (.tup [.str p.1.nm, .int ((fs : Int) - 1)])) t3 [.str p.1.nm, .int ((fs : Int) - 1)] := SqT.of upd_same
                      generalize hH17 : upd H16 t3 (.tup [.str p.1.nm, .int ((fs : Int) - 1)]) = H17 at *
                      have hsa17 := (Same.tk s17).seqT hsa16
                      walk_at "st"
                      refine ⟨sl3b _ _ _, ?_⟩
                      intro t4 nt4
                      rw [show cutV [.str p.1.nm, .int (fs : Int), .int (p.2.2 : Int)] (some 2) none = [.int (p.2.2 : Int)] from rfl]
                      have s18 : Same H17 (upd H17 t4 (.tup [.int (p.2.2 : Int)])) := Same.new nt4
                      have ht4 : SqT K (upd H17 t4 (.tup [.int (p.2.2 : Int)])) t4 [.int (p.2.2 : Int)] := SqT.of upd_same
                      generalize hH18 : upd H17 t4 (.tup [.int (p.2.2 : Int)]) = H18 at *
                      refine catA_of ((Same.tk s18).seqT ht3) ht4 (by intro z; cases z) (by intro z; cases z) (show 2 + 1 ≤ sizeLine by decide) fun t5 nt5 => ?_
                      have s19 : Same H18 (upd H18 t5 (.tup ([.str p.1.nm, .int ((fs : Int) - 1)] ++ [.int (p.2.2 : Int)]))) := Same.new nt5
                      have e5 : papD (p.1, fs - 1, p.2.2) = .tuple [.str p.1.nm, .int ((fs - 1 : Nat) : Int), .int (p.2.2 : Int)] := pap3 (p := (p.1, fs - 1, p.2.2)) nst
                      have ht5 : Tp K (upd H18 t5 (.tup ([.str p.1.nm, .int ((fs : Int) - 1)] ++ [.int (p.2.2 : Int)]))) (.ref t5) (papD (p.1, fs - 1, p.2.2)) := by
                        rw [e5, show ((fs - 1 : Nat) : Int) = (fs : Int) - 1 by omega]
                        exact .tup (SqT.of upd_same) (.cons (.str _) (.cons (.int _) (.cons (.int _) .nil)))
                      generalize hH19 : upd H18 t5 (.tup ([.str p.1.nm, .int ((fs : Int) - 1)] ++ [.int (p.2.2 : Int)])) = H19 at *
                      have s69 := Same.trans s17 (Same.trans s18 s19)
                      have stand19 := stand16.mono (Same.tk s69)
                      have tT := stand19.tT
                      have tF := stand19.tF
                      have tW := stand19.tW
                      have po5 : PapOk (p.1, fs - 1, p.2.2) := ⟨Nat.le_trans (Nat.sub_le _ _) (Nat.le_trans lfs po.f), po.st, po.p1, po.p2⟩
                      have l5 : Fl.length + (p.1, fs - 1, p.2.2).2.1 + (p.1, fs - 1, p.2.2).2.2 ≤ 3000 := by
                        show Fl.length + (fs - 1) + p.2.2 ≤ 3000
                        omega
                      clear ht3 ht4 hsa17 nt3 nt4 nt5 hH17 hH18 hH19 s17 s18 s19 stand16 pos l4 po
                      walk_at "st"
                      intro b H20 hb s20
                      have bf : b = false := by
                        rw [Bool.eq_false_iff]
                        intro z
                        have r1 := hb.mp z
                        have per := ((hY.right fit0 nst p1).mp r1).1
                        rcases pr2 with g | g
                        · exact fs0 g
                        · exact g (per (fs - 1) (Nat.le_refl _))
                      subst bf
                      walk_at "st"
                      exact q _
end

theorem defAt_mk {K : PySem.W.Frag} {mg : Str → Option Value} {h : Heap} {x : Str} {st : Stmt} {ps : List Str} {f : Addr} {od an : Option Addr} {sl : Array (Option Value)} {oc kV dc pm cd ct : Value} (X : K.In h) (G : h.Ns mainGlobals mg) (a : PySem.W.nsIn K mainGlobals x = some (some (.ref f))) (l : K.lookup f = some ⟨oc, od, .func (PySem.W.fnOf x x (defArgs st) (defBody st) (defScope st) .none kV dc pm an cd ct), sl⟩) (c : PySem.W.codeIn K cd x = true) (k : PySem.W.keepIn K (.ref f) = true)
    (hb : ∀ (kV doc pm : Value) (an : Option Addr) (cdv ct : Value) (us : List Value), us.length = ps.length → bindArgs (PySem.W.fnOf x x (defArgs st) (defBody st) (defScope st) .none kV doc pm an cdv ct) ⟨us, []⟩ = pure (ps.zip us)) : DefAt K mg x st ps := by
  have F := fun_mk (st := st) l c k
  exact ⟨f, _, F, PySem.W.mg_of X G a, F.binds hb⟩
theorem metAt_mk {K : PySem.W.Frag} {C : Addr} {m qual : Str} {st : Stmt} {ps : List Str} {f : Addr} {od an : Option Addr} {sl : Array (Option Value)} {oc kV dc pm cd ct : Value} (a : PySem.W.findIn K (.ref C) m = some (some (.ref f))) (t : PySem.W.typeIn K (.ref f) = some (.type "function")) (l : K.lookup f = some ⟨oc, od, .func (PySem.W.fnOf m qual (defArgs st) (defBody st) (defScope st) .none kV dc pm an cd ct), sl⟩) (c : PySem.W.codeIn K cd qual = true) (k : PySem.W.keepIn K (.ref f) = true)
    (hb : ∀ (kV doc pm : Value) (an : Option Addr) (cdv ct : Value) (us : List Value), us.length = ps.length → bindArgs (PySem.W.fnOf m qual (defArgs st) (defBody st) (defScope st) .none kV doc pm an cdv ct) ⟨us, []⟩ = pure (ps.zip us)) : MetAt K C m qual st ps := by
  have F := fun_mk (st := st) l c k
  exact ⟨f, _, a, t, F, F.binds hb⟩
theorem metAtD_mk {K : PySem.W.Frag} {C : Addr} {m qual : Str} {st : Stmt} {ps : List Str} {f T : Addr} {its : Array Value} {tn : Nat} {dvs : List V} {od an : Option Addr} {sl : Array (Option Value)} {oc kV dc pm cd ct : Value} (n : Nat) (a : PySem.W.findIn K (.ref C) m = some (some (.ref f))) (t : PySem.W.typeIn K (.ref f) = some (.type "function")) (l : K.lookup f = some ⟨oc, od, .func (PySem.W.fnOf m qual (defArgs st) (defBody st) (defScope st) (.ref T) kV dc pm an cd ct), sl⟩) (c : PySem.W.codeIn K cd qual = true) (k : PySem.W.keepIn K (.ref f) = true)
    (lT : K.lookup T = some { cls := .type "tuple", data := .seq its tn }) (rv : Vals dvs its.toList) (hd : dvs ≠ []) (hn : n + (dvs.length - 0) = ps.length)
    (hb : ∀ (T : Addr) (kV doc pm : Value) (an : Option Addr) (cdv ct : Value) (us its : List Value), us.length = n → its.length = dvs.length → ∃ k, bindArgs (PySem.W.fnOf m qual (defArgs st) (defBody st) (defScope st) (.ref T) kV doc pm an cdv ct) ⟨us, []⟩ = seqItems? (.ref T) >>= k ∧ k (some its.toArray) = pure (ps.zip (us ++ its.drop 0))) : MetAtD K C m qual st ps dvs := by
  have F : FunD K m qual (defArgs st) (defBody st) (defScope st) dvs [] f _ := ⟨⟨oc, od, .ref T, kV, dc, pm, an, cd, ct, sl, rfl, l, c, .inr ⟨hd, T, _, its.toList, tn, rfl, lT, rfl, rv⟩, .inl rfl⟩, k⟩
  obtain ⟨ds, v, b⟩ := F.binds1 n 0 hd hn hb
  exact ⟨f, _, ds, a, t, F, v, b⟩
theorem all_mk {P : Program} {w : World} {K : PySem.W.Frag} {h : Heap} {mg : Str → Option Value} {fa : Addr} {f0 : Addr} {od0 an0 : Option Addr} {sl0 : Array (Option Value)} {oc0 kV0 dc0 pm0 cd0 ct0 : Value} {f1 : Addr} {od1 an1 : Option Addr} {sl1 : Array (Option Value)} {oc1 kV1 dc1 pm1 cd1 ct1 : Value} {f2 : Addr} {od2 an2 : Option Addr} {sl2 : Array (Option Value)} {oc2 kV2 dc2 pm2 cd2 ct2 : Value} {f3 : Addr} {od3 an3 : Option Addr} {sl3 : Array (Option Value)} {oc3 kV3 dc3 pm3 cd3 ct3 : Value} {f4 : Addr} {od4 an4 : Option Addr} {sl4 : Array (Option Value)} {oc4 kV4 dc4 pm4 cd4 ct4 : Value} {f5 : Addr} {od5 an5 : Option Addr} {sl5 : Array (Option Value)} {oc5 kV5 dc5 pm5 cd5 ct5 : Value} {f6 : Addr} {od6 an6 : Option Addr} {sl6 : Array (Option Value)} {oc6 kV6 dc6 pm6 cd6 ct6 : Value} {f7 : Addr} {od7 an7 : Option Addr} {sl7 : Array (Option Value)} {oc7 kV7 dc7 pm7 cd7 ct7 : Value} {f8 : Addr} {od8 an8 : Option Addr} {sl8 : Array (Option Value)} {oc8 kV8 dc8 pm8 cd8 ct8 : Value} {f9 : Addr} {od9 an9 : Option Addr} {sl9 : Array (Option Value)} {oc9 kV9 dc9 pm9 cd9 ct9 : Value} {f10 : Addr} {od10 an10 : Option Addr} {sl10 : Array (Option Value)} {oc10 kV10 dc10 pm10 cd10 ct10 : Value} {f11 : Addr} {od11 an11 : Option Addr} {sl11 : Array (Option Value)} {oc11 kV11 dc11 pm11 cd11 ct11 : Value} {f12 : Addr} {od12 an12 : Option Addr} {sl12 : Array (Option Value)} {oc12 kV12 dc12 pm12 cd12 ct12 : Value} {f13 : Addr} {od13 an13 : Option Addr} {sl13 : Array (Option Value)} {oc13 kV13 dc13 pm13 cd13 ct13 : Value} {f14 : Addr} {od14 an14 : Option Addr} {sl14 : Array (Option Value)} {oc14 kV14 dc14 pm14 cd14 ct14 : Value} {f15 : Addr} {od15 an15 : Option Addr} {sl15 : Array (Option Value)} {oc15 kV15 dc15 pm15 cd15 ct15 : Value} {f16 : Addr} {od16 an16 : Option Addr} {sl16 : Array (Option Value)} {oc16 kV16 dc16 pm16 cd16 ct16 : Value} {f17 : Addr} {od17 an17 : Option Addr} {sl17 : Array (Option Value)} {oc17 kV17 dc17 pm17 cd17 ct17 : Value} {f18 : Addr} {od18 an18 : Option Addr} {sl18 : Array (Option Value)} {oc18 kV18 dc18 pm18 cd18 ct18 : Value} {f19 : Addr} {od19 an19 : Option Addr} {sl19 : Array (Option Value)} {oc19 kV19 dc19 pm19 cd19 ct19 : Value} {f20 : Addr} {od20 an20 : Option Addr} {sl20 : Array (Option Value)} {oc20 kV20 dc20 pm20 cd20 ct20 : Value} {f21 : Addr} {od21 an21 : Option Addr} {sl21 : Array (Option Value)} {oc21 kV21 dc21 pm21 cd21 ct21 : Value} {f22 : Addr} {od22 an22 : Option Addr} {sl22 : Array (Option Value)} {oc22 kV22 dc22 pm22 cd22 ct22 : Value} {f23 : Addr} {od23 an23 : Option Addr} {sl23 : Array (Option Value)} {oc23 kV23 dc23 pm23 cd23 ct23 : Value} {f24 : Addr} {od24 an24 : Option Addr} {sl24 : Array (Option Value)} {oc24 kV24 dc24 pm24 cd24 ct24 : Value} {f25 : Addr} {od25 an25 : Option Addr} {sl25 : Array (Option Value)} {oc25 kV25 dc25 pm25 cd25 ct25 : Value} {f26 : Addr} {od26 an26 : Option Addr} {sl26 : Array (Option Value)} {oc26 kV26 dc26 pm26 cd26 ct26 : Value} {f27 : Addr} {od27 an27 : Option Addr} {sl27 : Array (Option Value)} {oc27 kV27 dc27 pm27 cd27 ct27 : Value} {f28 : Addr} {od28 an28 : Option Addr} {sl28 : Array (Option Value)} {oc28 kV28 dc28 pm28 cd28 ct28 : Value} {f29 : Addr} {od29 an29 : Option Addr} {sl29 : Array (Option Value)} {oc29 kV29 dc29 pm29 cd29 ct29 : Value} {f30 : Addr} {od30 an30 : Option Addr} {sl30 : Array (Option Value)} {oc30 kV30 dc30 pm30 cd30 ct30 : Value} {f31 : Addr} {od31 an31 : Option Addr} {sl31 : Array (Option Value)} {oc31 kV31 dc31 pm31 cd31 ct31 : Value} {f32 : Addr} {od32 an32 : Option Addr} {sl32 : Array (Option Value)} {oc32 kV32 dc32 pm32 cd32 ct32 : Value} {f33 : Addr} {od33 an33 : Option Addr} {sl33 : Array (Option Value)} {oc33 kV33 dc33 pm33 cd33 ct33 : Value} {f34 : Addr} {od34 an34 : Option Addr} {sl34 : Array (Option Value)} {oc34 kV34 dc34 pm34 cd34 ct34 : Value} {f35 : Addr} {od35 an35 : Option Addr} {sl35 : Array (Option Value)} {oc35 kV35 dc35 pm35 cd35 ct35 : Value} {f36 : Addr} {od36 an36 : Option Addr} {sl36 : Array (Option Value)} {oc36 kV36 dc36 pm36 cd36 ct36 : Value} {f37 : Addr} {od37 an37 : Option Addr} {sl37 : Array (Option Value)} {oc37 kV37 dc37 pm37 cd37 ct37 : Value} {f38 : Addr} {od38 an38 : Option Addr} {sl38 : Array (Option Value)} {oc38 kV38 dc38 pm38 cd38 ct38 : Value} {f39 : Addr} {od39 an39 : Option Addr} {sl39 : Array (Option Value)} {oc39 kV39 dc39 pm39 cd39 ct39 : Value} {f40 : Addr} {od40 an40 : Option Addr} {sl40 : Array (Option Value)} {oc40 kV40 dc40 pm40 cd40 ct40 : Value} {f41 : Addr} {od41 an41 : Option Addr} {sl41 : Array (Option Value)} {oc41 kV41 dc41 pm41 cd41 ct41 : Value} {f42 : Addr} {od42 an42 : Option Addr} {sl42 : Array (Option Value)} {oc42 kV42 dc42 pm42 cd42 ct42 : Value} {f43 : Addr} {od43 an43 : Option Addr} {sl43 : Array (Option Value)} {oc43 kV43 dc43 pm43 cd43 ct43 : Value} {f44 : Addr} {od44 an44 : Option Addr} {sl44 : Array (Option Value)} {oc44 kV44 dc44 pm44 cd44 ct44 : Value} {f45 : Addr} {od45 an45 : Option Addr} {sl45 : Array (Option Value)} {oc45 kV45 dc45 pm45 cd45 ct45 : Value} {f46 : Addr} {od46 an46 : Option Addr} {sl46 : Array (Option Value)} {oc46 kV46 dc46 pm46 cd46 ct46 : Value} {t_FAR : Tok} {t_MOST_STATES : Tok} {t_FEWEST_COLOURS : Tok} {t_MOST_COLOURS : Tok} {t_MOST_SQUARES : Tok} {t_MOST_STEPS : Tok} {hA hB0 hB1 hB2 hB3 : Addr} {hn hn0 hn1 hn2 hn3 : Nat} {ht1 ht2 ht3 ht4 ht5 ht6 ht7 ht8 : Tok} {t_LONGEST_PERIOD : Tok} {t_MOST_WALKED : Tok} {C_Stroll : Addr} {f_Stroll_init : Addr} {od_Stroll_init an_Stroll_init : Option Addr} {sl_Stroll_init : Array (Option Value)} {oc_Stroll_init kV_Stroll_init dc_Stroll_init pm_Stroll_init cd_Stroll_init ct_Stroll_init : Value} {dT_Stroll_init : Addr} {dn_Stroll_init : Nat} {hBL hBL0 : Addr} {nBL nBL0 : Nat} {tBL : Tok} {f_Stroll_colour_of : Addr} {od_Stroll_colour_of an_Stroll_colour_of : Option Addr} {sl_Stroll_colour_of : Array (Option Value)} {oc_Stroll_colour_of kV_Stroll_colour_of dc_Stroll_colour_of pm_Stroll_colour_of cd_Stroll_colour_of ct_Stroll_colour_of : Value} {f_Stroll_paint : Addr} {od_Stroll_paint an_Stroll_paint : Option Addr} {sl_Stroll_paint : Array (Option Value)} {oc_Stroll_paint kV_Stroll_paint dc_Stroll_paint pm_Stroll_paint cd_Stroll_paint ct_Stroll_paint : Value} {f_Stroll_go : Addr} {od_Stroll_go an_Stroll_go : Option Addr} {sl_Stroll_go : Array (Option Value)} {oc_Stroll_go kV_Stroll_go dc_Stroll_go pm_Stroll_go cd_Stroll_go ct_Stroll_go : Value} {f_Stroll_reading : Addr} {od_Stroll_reading an_Stroll_reading : Option Addr} {sl_Stroll_reading : Array (Option Value)} {oc_Stroll_reading kV_Stroll_reading dc_Stroll_reading pm_Stroll_reading cd_Stroll_reading ct_Stroll_reading : Value} {f_Stroll_has_stopped : Addr} {od_Stroll_has_stopped an_Stroll_has_stopped : Option Addr} {sl_Stroll_has_stopped : Array (Option Value)} {oc_Stroll_has_stopped kV_Stroll_has_stopped dc_Stroll_has_stopped pm_Stroll_has_stopped cd_Stroll_has_stopped ct_Stroll_has_stopped : Value} {C_Course : Addr} {f_Course_init : Addr} {od_Course_init an_Course_init : Option Addr} {sl_Course_init : Array (Option Value)} {oc_Course_init kV_Course_init dc_Course_init pm_Course_init cd_Course_init ct_Course_init : Value} {f_Course_holds : Addr} {od_Course_holds an_Course_holds : Option Addr} {sl_Course_holds : Array (Option Value)} {oc_Course_holds kV_Course_holds dc_Course_holds pm_Course_holds cd_Course_holds ct_Course_holds : Value} (X : K.In h) (G : h.Ns mainGlobals mg) (hfa : mg "law" = some (.ref fa))
    (a0 : PySem.W.nsIn K mainGlobals "_wall" = some (some (.ref f0)))
    (l0 : K.lookup f0 = some ⟨oc0, od0, .func (PySem.W.fnOf "_wall" "_wall" (defArgs s_u_wall) (defBody s_u_wall) (defScope s_u_wall) .none kV0 dc0 pm0 an0 cd0 ct0), sl0⟩)
    (c0 : PySem.W.codeIn K cd0 "_wall" = true)
    (k0 : PySem.W.keepIn K (.ref f0) = true)
    (a1 : PySem.W.nsIn K mainGlobals "is_whole" = some (some (.ref f1)))
    (l1 : K.lookup f1 = some ⟨oc1, od1, .func (PySem.W.fnOf "is_whole" "is_whole" (defArgs s_is_whole) (defBody s_is_whole) (defScope s_is_whole) .none kV1 dc1 pm1 an1 cd1 ct1), sl1⟩)
    (c1 : PySem.W.codeIn K cd1 "is_whole" = true)
    (k1 : PySem.W.keepIn K (.ref f1) = true)
    (a2 : PySem.W.nsIn K mainGlobals "is_place" = some (some (.ref f2)))
    (l2 : K.lookup f2 = some ⟨oc2, od2, .func (PySem.W.fnOf "is_place" "is_place" (defArgs s_is_place) (defBody s_is_place) (defScope s_is_place) .none kV2 dc2 pm2 an2 cd2 ct2), sl2⟩)
    (c2 : PySem.W.codeIn K cd2 "is_place" = true)
    (k2 : PySem.W.keepIn K (.ref f2) = true)
    (a3 : PySem.W.nsIn K mainGlobals "check_number" = some (some (.ref f3)))
    (l3 : K.lookup f3 = some ⟨oc3, od3, .func (PySem.W.fnOf "check_number" "check_number" (defArgs s_check_number) (defBody s_check_number) (defScope s_check_number) .none kV3 dc3 pm3 an3 cd3 ct3), sl3⟩)
    (c3 : PySem.W.codeIn K cd3 "check_number" = true)
    (k3 : PySem.W.keepIn K (.ref f3) = true)
    (a4 : PySem.W.nsIn K mainGlobals "check_place" = some (some (.ref f4)))
    (l4 : K.lookup f4 = some ⟨oc4, od4, .func (PySem.W.fnOf "check_place" "check_place" (defArgs s_check_place) (defBody s_check_place) (defScope s_check_place) .none kV4 dc4 pm4 an4 cd4 ct4), sl4⟩)
    (c4 : PySem.W.codeIn K cd4 "check_place" = true)
    (k4 : PySem.W.keepIn K (.ref f4) = true)
    (a5 : PySem.W.nsIn K mainGlobals "check_table" = some (some (.ref f5)))
    (l5 : K.lookup f5 = some ⟨oc5, od5, .func (PySem.W.fnOf "check_table" "check_table" (defArgs s_check_table) (defBody s_check_table) (defScope s_check_table) .none kV5 dc5 pm5 an5 cd5 ct5), sl5⟩)
    (c5 : PySem.W.codeIn K cd5 "check_table" = true)
    (k5 : PySem.W.keepIn K (.ref f5) = true)
    (a6 : PySem.W.nsIn K mainGlobals "is_table" = some (some (.ref f6)))
    (l6 : K.lookup f6 = some ⟨oc6, od6, .func (PySem.W.fnOf "is_table" "is_table" (defArgs s_is_table) (defBody s_is_table) (defScope s_is_table) .none kV6 dc6 pm6 an6 cd6 ct6), sl6⟩)
    (c6 : PySem.W.codeIn K cd6 "is_table" = true)
    (k6 : PySem.W.keepIn K (.ref f6) = true)
    (a7 : PySem.W.nsIn K mainGlobals "_is_entry" = some (some (.ref f7)))
    (l7 : K.lookup f7 = some ⟨oc7, od7, .func (PySem.W.fnOf "_is_entry" "_is_entry" (defArgs s_u_is_entry) (defBody s_u_is_entry) (defScope s_u_is_entry) .none kV7 dc7 pm7 an7 cd7 ct7), sl7⟩)
    (c7 : PySem.W.codeIn K cd7 "_is_entry" = true)
    (k7 : PySem.W.keepIn K (.ref f7) = true)
    (a8 : PySem.W.nsIn K mainGlobals "check_floor" = some (some (.ref f8)))
    (l8 : K.lookup f8 = some ⟨oc8, od8, .func (PySem.W.fnOf "check_floor" "check_floor" (defArgs s_check_floor) (defBody s_check_floor) (defScope s_check_floor) .none kV8 dc8 pm8 an8 cd8 ct8), sl8⟩)
    (c8 : PySem.W.codeIn K cd8 "check_floor" = true)
    (k8 : PySem.W.keepIn K (.ref f8) = true)
    (a9 : PySem.W.nsIn K mainGlobals "painted_places" = some (some (.ref f9)))
    (l9 : K.lookup f9 = some ⟨oc9, od9, .func (PySem.W.fnOf "painted_places" "painted_places" (defArgs s_painted_places) (defBody s_painted_places) (defScope s_painted_places) .none kV9 dc9 pm9 an9 cd9 ct9), sl9⟩)
    (c9 : PySem.W.codeIn K cd9 "painted_places" = true)
    (k9 : PySem.W.keepIn K (.ref f9) = true)
    (a10 : PySem.W.nsIn K mainGlobals "ground_colour" = some (some (.ref f10)))
    (l10 : K.lookup f10 = some ⟨oc10, od10, .func (PySem.W.fnOf "ground_colour" "ground_colour" (defArgs s_ground_colour) (defBody s_ground_colour) (defScope s_ground_colour) .none kV10 dc10 pm10 an10 cd10 ct10), sl10⟩)
    (c10 : PySem.W.codeIn K cd10 "ground_colour" = true)
    (k10 : PySem.W.keepIn K (.ref f10) = true)
    (a11 : PySem.W.nsIn K mainGlobals "paint_square" = some (some (.ref f11)))
    (l11 : K.lookup f11 = some ⟨oc11, od11, .func (PySem.W.fnOf "paint_square" "paint_square" (defArgs s_paint_square) (defBody s_paint_square) (defScope s_paint_square) .none kV11 dc11 pm11 an11 cd11 ct11), sl11⟩)
    (c11 : PySem.W.codeIn K cd11 "paint_square" = true)
    (k11 : PySem.W.keepIn K (.ref f11) = true)
    (a12 : PySem.W.nsIn K mainGlobals "_is_square" = some (some (.ref f12)))
    (l12 : K.lookup f12 = some ⟨oc12, od12, .func (PySem.W.fnOf "_is_square" "_is_square" (defArgs s_u_is_square) (defBody s_u_is_square) (defScope s_u_is_square) .none kV12 dc12 pm12 an12 cd12 ct12), sl12⟩)
    (c12 : PySem.W.codeIn K cd12 "_is_square" = true)
    (k12 : PySem.W.keepIn K (.ref f12) = true)
    (a13 : PySem.W.nsIn K mainGlobals "check_stand" = some (some (.ref f13)))
    (l13 : K.lookup f13 = some ⟨oc13, od13, .func (PySem.W.fnOf "check_stand" "check_stand" (defArgs s_check_stand) (defBody s_check_stand) (defScope s_check_stand) .none kV13 dc13 pm13 an13 cd13 ct13), sl13⟩)
    (c13 : PySem.W.codeIn K cd13 "check_stand" = true)
    (k13 : PySem.W.keepIn K (.ref f13) = true)
    (a14 : PySem.W.nsIn K mainGlobals "check_walker" = some (some (.ref f14)))
    (l14 : K.lookup f14 = some ⟨oc14, od14, .func (PySem.W.fnOf "check_walker" "check_walker" (defArgs s_check_walker) (defBody s_check_walker) (defScope s_check_walker) .none kV14 dc14 pm14 an14 cd14 ct14), sl14⟩)
    (c14 : PySem.W.codeIn K cd14 "check_walker" = true)
    (k14 : PySem.W.keepIn K (.ref f14) = true)
    (a15 : PySem.W.nsIn K mainGlobals "is_walker" = some (some (.ref f15)))
    (l15 : K.lookup f15 = some ⟨oc15, od15, .func (PySem.W.fnOf "is_walker" "is_walker" (defArgs s_is_walker) (defBody s_is_walker) (defScope s_is_walker) .none kV15 dc15 pm15 an15 cd15 ct15), sl15⟩)
    (c15 : PySem.W.codeIn K cd15 "is_walker" = true)
    (k15 : PySem.W.keepIn K (.ref f15) = true)
    (a16 : PySem.W.nsIn K mainGlobals "_walker_behind" = some (some (.ref f16)))
    (l16 : K.lookup f16 = some ⟨oc16, od16, .func (PySem.W.fnOf "_walker_behind" "_walker_behind" (defArgs s_u_walker_behind) (defBody s_u_walker_behind) (defScope s_u_walker_behind) .none kV16 dc16 pm16 an16 cd16 ct16), sl16⟩)
    (c16 : PySem.W.codeIn K cd16 "_walker_behind" = true)
    (k16 : PySem.W.keepIn K (.ref f16) = true)
    (a17 : PySem.W.nsIn K mainGlobals "shows_paper" = some (some (.ref f17)))
    (l17 : K.lookup f17 = some ⟨oc17, od17, .func (PySem.W.fnOf "shows_paper" "shows_paper" (defArgs s_shows_paper) (defBody s_shows_paper) (defScope s_shows_paper) .none kV17 dc17 pm17 an17 cd17 ct17), sl17⟩)
    (c17 : PySem.W.codeIn K cd17 "shows_paper" = true)
    (k17 : PySem.W.keepIn K (.ref f17) = true)
    (a18 : PySem.W.nsIn K mainGlobals "is_paper" = some (some (.ref f18)))
    (l18 : K.lookup f18 = some ⟨oc18, od18, .func (PySem.W.fnOf "is_paper" "is_paper" (defArgs s_is_paper) (defBody s_is_paper) (defScope s_is_paper) .none kV18 dc18 pm18 an18 cd18 ct18), sl18⟩)
    (c18 : PySem.W.codeIn K cd18 "is_paper" = true)
    (k18 : PySem.W.keepIn K (.ref f18) = true)
    (a19 : PySem.W.nsIn K mainGlobals "right_course" = some (some (.ref f19)))
    (l19 : K.lookup f19 = some ⟨oc19, od19, .func (PySem.W.fnOf "right_course" "right_course" (defArgs s_right_course) (defBody s_right_course) (defScope s_right_course) .none kV19 dc19 pm19 an19 cd19 ct19), sl19⟩)
    (c19 : PySem.W.codeIn K cd19 "right_course" = true)
    (k19 : PySem.W.keepIn K (.ref f19) = true)
    (a20 : PySem.W.nsIn K mainGlobals "judged_course" = some (some (.ref f20)))
    (l20 : K.lookup f20 = some ⟨oc20, od20, .func (PySem.W.fnOf "judged_course" "judged_course" (defArgs s_judged_course) (defBody s_judged_course) (defScope s_judged_course) .none kV20 dc20 pm20 an20 cd20 ct20), sl20⟩)
    (c20 : PySem.W.codeIn K cd20 "judged_course" = true)
    (k20 : PySem.W.keepIn K (.ref f20) = true)
    (a21 : PySem.W.nsIn K mainGlobals "lane_of" = some (some (.ref f21)))
    (l21 : K.lookup f21 = some ⟨oc21, od21, .func (PySem.W.fnOf "lane_of" "lane_of" (defArgs s_lane_of) (defBody s_lane_of) (defScope s_lane_of) .none kV21 dc21 pm21 an21 cd21 ct21), sl21⟩)
    (c21 : PySem.W.codeIn K cd21 "lane_of" = true)
    (k21 : PySem.W.keepIn K (.ref f21) = true)
    (a22 : PySem.W.nsIn K mainGlobals "_copied" = some (some (.ref f22)))
    (l22 : K.lookup f22 = some ⟨oc22, od22, .func (PySem.W.fnOf "_copied" "_copied" (defArgs s_u_copied) (defBody s_u_copied) (defScope s_u_copied) .none kV22 dc22 pm22 an22 cd22 ct22), sl22⟩)
    (c22 : PySem.W.codeIn K cd22 "_copied" = true)
    (k22 : PySem.W.keepIn K (.ref f22) = true)
    (a23 : PySem.W.nsIn K mainGlobals "_repeats_for_ever" = some (some (.ref f23)))
    (l23 : K.lookup f23 = some ⟨oc23, od23, .func (PySem.W.fnOf "_repeats_for_ever" "_repeats_for_ever" (defArgs s_u_repeats_for_ever) (defBody s_u_repeats_for_ever) (defScope s_u_repeats_for_ever) .none kV23 dc23 pm23 an23 cd23 ct23), sl23⟩)
    (c23 : PySem.W.codeIn K cd23 "_repeats_for_ever" = true)
    (k23 : PySem.W.keepIn K (.ref f23) = true)
    (a24 : PySem.W.nsIn K mainGlobals "_lane_visits" = some (some (.ref f24)))
    (l24 : K.lookup f24 = some ⟨oc24, od24, .func (PySem.W.fnOf "_lane_visits" "_lane_visits" (defArgs s_u_lane_visits) (defBody s_u_lane_visits) (defScope s_u_lane_visits) .none kV24 dc24 pm24 an24 cd24 ct24), sl24⟩)
    (c24 : PySem.W.codeIn K cd24 "_lane_visits" = true)
    (k24 : PySem.W.keepIn K (.ref f24) = true)
    (a25 : PySem.W.nsIn K mainGlobals "_lane_ground" = some (some (.ref f25)))
    (l25 : K.lookup f25 = some ⟨oc25, od25, .func (PySem.W.fnOf "_lane_ground" "_lane_ground" (defArgs s_u_lane_ground) (defBody s_u_lane_ground) (defScope s_u_lane_ground) .none kV25 dc25 pm25 an25 cd25 ct25), sl25⟩)
    (c25 : PySem.W.codeIn K cd25 "_lane_ground" = true)
    (k25 : PySem.W.keepIn K (.ref f25) = true)
    (a26 : PySem.W.nsIn K mainGlobals "_lane_repeats" = some (some (.ref f26)))
    (l26 : K.lookup f26 = some ⟨oc26, od26, .func (PySem.W.fnOf "_lane_repeats" "_lane_repeats" (defArgs s_u_lane_repeats) (defBody s_u_lane_repeats) (defScope s_u_lane_repeats) .none kV26 dc26 pm26 an26 cd26 ct26), sl26⟩)
    (c26 : PySem.W.codeIn K cd26 "_lane_repeats" = true)
    (k26 : PySem.W.keepIn K (.ref f26) = true)
    (a27 : PySem.W.nsIn K mainGlobals "find_paper" = some (some (.ref f27)))
    (l27 : K.lookup f27 = some ⟨oc27, od27, .func (PySem.W.fnOf "find_paper" "find_paper" (defArgs s_find_paper) (defBody s_find_paper) (defScope s_find_paper) .none kV27 dc27 pm27 an27 cd27 ct27), sl27⟩)
    (c27 : PySem.W.codeIn K cd27 "find_paper" = true)
    (k27 : PySem.W.keepIn K (.ref f27) = true)
    (a28 : PySem.W.nsIn K mainGlobals "found_paper" = some (some (.ref f28)))
    (l28 : K.lookup f28 = some ⟨oc28, od28, .func (PySem.W.fnOf "found_paper" "found_paper" (defArgs s_found_paper) (defBody s_found_paper) (defScope s_found_paper) .none kV28 dc28 pm28 an28 cd28 ct28), sl28⟩)
    (c28 : PySem.W.codeIn K cd28 "found_paper" = true)
    (k28 : PySem.W.keepIn K (.ref f28) = true)
    (a29 : PySem.W.nsIn K mainGlobals "soonest" = some (some (.ref f29)))
    (l29 : K.lookup f29 = some ⟨oc29, od29, .func (PySem.W.fnOf "soonest" "soonest" (defArgs s_soonest) (defBody s_soonest) (defScope s_soonest) .none kV29 dc29 pm29 an29 cd29 ct29), sl29⟩)
    (c29 : PySem.W.codeIn K cd29 "soonest" = true)
    (k29 : PySem.W.keepIn K (.ref f29) = true)
    (a30 : PySem.W.nsIn K mainGlobals "_stances" = some (some (.ref f30)))
    (l30 : K.lookup f30 = some ⟨oc30, od30, .func (PySem.W.fnOf "_stances" "_stances" (defArgs s_u_stances) (defBody s_u_stances) (defScope s_u_stances) .none kV30 dc30 pm30 an30 cd30 ct30), sl30⟩)
    (c30 : PySem.W.codeIn K cd30 "_stances" = true)
    (k30 : PySem.W.keepIn K (.ref f30) = true)
    (a31 : PySem.W.nsIn K mainGlobals "_likely_papers" = some (some (.ref f31)))
    (l31 : K.lookup f31 = some ⟨oc31, od31, .func (PySem.W.fnOf "_likely_papers" "_likely_papers" (defArgs s_u_likely_papers) (defBody s_u_likely_papers) (defScope s_u_likely_papers) .none kV31 dc31 pm31 an31 cd31 ct31), sl31⟩)
    (c31 : PySem.W.codeIn K cd31 "_likely_papers" = true)
    (k31 : PySem.W.keepIn K (.ref f31) = true)
    (a32 : PySem.W.nsIn K mainGlobals "_likely_periods" = some (some (.ref f32)))
    (l32 : K.lookup f32 = some ⟨oc32, od32, .func (PySem.W.fnOf "_likely_periods" "_likely_periods" (defArgs s_u_likely_periods) (defBody s_u_likely_periods) (defScope s_u_likely_periods) .none kV32 dc32 pm32 an32 cd32 ct32), sl32⟩)
    (c32 : PySem.W.codeIn K cd32 "_likely_periods" = true)
    (k32 : PySem.W.keepIn K (.ref f32) = true)
    (a33 : PySem.W.nsIn K mainGlobals "_agreements" = some (some (.ref f33)))
    (l33 : K.lookup f33 = some ⟨oc33, od33, .func (PySem.W.fnOf "_agreements" "_agreements" (defArgs s_u_agreements) (defBody s_u_agreements) (defScope s_u_agreements) .none kV33 dc33 pm33 an33 cd33 ct33), sl33⟩)
    (c33 : PySem.W.codeIn K cd33 "_agreements" = true)
    (k33 : PySem.W.keepIn K (.ref f33) = true)
    (a34 : PySem.W.nsIn K mainGlobals "_law_taken" = some (some (.ref f34)))
    (l34 : K.lookup f34 = some ⟨oc34, od34, .func (PySem.W.fnOf "_law_taken" "_law_taken" (defArgs s_law_taken) (defBody s_law_taken) (defScope s_law_taken) .none kV34 dc34 pm34 an34 cd34 ct34), sl34⟩)
    (c34 : PySem.W.codeIn K cd34 "_law_taken" = true)
    (k34 : PySem.W.keepIn K (.ref f34) = true)
    (a35 : PySem.W.nsIn K mainGlobals "_law_pick" = some (some (.ref f35)))
    (l35 : K.lookup f35 = some ⟨oc35, od35, .func (PySem.W.fnOf "_law_pick" "_law_pick" (defArgs s_law_pick) (defBody s_law_pick) (defScope s_law_pick) .none kV35 dc35 pm35 an35 cd35 ct35), sl35⟩)
    (c35 : PySem.W.codeIn K cd35 "_law_pick" = true)
    (k35 : PySem.W.keepIn K (.ref f35) = true)
    (a36 : PySem.W.nsIn K mainGlobals "_law_known" = some (some (.ref f36)))
    (l36 : K.lookup f36 = some ⟨oc36, od36, .func (PySem.W.fnOf "_law_known" "_law_known" (defArgs s_law_known) (defBody s_law_known) (defScope s_law_known) .none kV36 dc36 pm36 an36 cd36 ct36), sl36⟩)
    (c36 : PySem.W.codeIn K cd36 "_law_known" = true)
    (k36 : PySem.W.keepIn K (.ref f36) = true)
    (a37 : PySem.W.nsIn K mainGlobals "_law_signed" = some (some (.ref f37)))
    (l37 : K.lookup f37 = some ⟨oc37, od37, .func (PySem.W.fnOf "_law_signed" "_law_signed" (defArgs s_law_signed) (defBody s_law_signed) (defScope s_law_signed) .none kV37 dc37 pm37 an37 cd37 ct37), sl37⟩)
    (c37 : PySem.W.codeIn K cd37 "_law_signed" = true)
    (k37 : PySem.W.keepIn K (.ref f37) = true)
    (a38 : PySem.W.nsIn K mainGlobals "_law_some_floor" = some (some (.ref f38)))
    (l38 : K.lookup f38 = some ⟨oc38, od38, .func (PySem.W.fnOf "_law_some_floor" "_law_some_floor" (defArgs s_law_some_floor) (defBody s_law_some_floor) (defScope s_law_some_floor) .none kV38 dc38 pm38 an38 cd38 ct38), sl38⟩)
    (c38 : PySem.W.codeIn K cd38 "_law_some_floor" = true)
    (k38 : PySem.W.keepIn K (.ref f38) = true)
    (a39 : PySem.W.nsIn K mainGlobals "_law_stand" = some (some (.ref f39)))
    (l39 : K.lookup f39 = some ⟨oc39, od39, .func (PySem.W.fnOf "_law_stand" "_law_stand" (defArgs s_law_stand) (defBody s_law_stand) (defScope s_law_stand) .none kV39 dc39 pm39 an39 cd39 ct39), sl39⟩)
    (c39 : PySem.W.codeIn K cd39 "_law_stand" = true)
    (k39 : PySem.W.keepIn K (.ref f39) = true)
    (a40 : PySem.W.nsIn K mainGlobals "_law_table" = some (some (.ref f40)))
    (l40 : K.lookup f40 = some ⟨oc40, od40, .func (PySem.W.fnOf "_law_table" "_law_table" (defArgs s_law_table) (defBody s_law_table) (defScope s_law_table) .none kV40 dc40 pm40 an40 cd40 ct40), sl40⟩)
    (c40 : PySem.W.codeIn K cd40 "_law_table" = true)
    (k40 : PySem.W.keepIn K (.ref f40) = true)
    (a41 : PySem.W.nsIn K mainGlobals "_law_walker" = some (some (.ref f41)))
    (l41 : K.lookup f41 = some ⟨oc41, od41, .func (PySem.W.fnOf "_law_walker" "_law_walker" (defArgs s_law_walker) (defBody s_law_walker) (defScope s_law_walker) .none kV41 dc41 pm41 an41 cd41 ct41), sl41⟩)
    (c41 : PySem.W.codeIn K cd41 "_law_walker" = true)
    (k41 : PySem.W.keepIn K (.ref f41) = true)
    (a42 : PySem.W.nsIn K mainGlobals "_law_ahead" = some (some (.ref f42)))
    (l42 : K.lookup f42 = some ⟨oc42, od42, .func (PySem.W.fnOf "_law_ahead" "_law_ahead" (defArgs s_law_ahead) (defBody s_law_ahead) (defScope s_law_ahead) .none kV42 dc42 pm42 an42 cd42 ct42), sl42⟩)
    (c42 : PySem.W.codeIn K cd42 "_law_ahead" = true)
    (k42 : PySem.W.keepIn K (.ref f42) = true)
    (a43 : PySem.W.nsIn K mainGlobals "_law_step" = some (some (.ref f43)))
    (l43 : K.lookup f43 = some ⟨oc43, od43, .func (PySem.W.fnOf "_law_step" "_law_step" (defArgs s_law_step) (defBody s_law_step) (defScope s_law_step) .none kV43 dc43 pm43 an43 cd43 ct43), sl43⟩)
    (c43 : PySem.W.codeIn K cd43 "_law_step" = true)
    (k43 : PySem.W.keepIn K (.ref f43) = true)
    (a44 : PySem.W.nsIn K mainGlobals "_law_floor" = some (some (.ref f44)))
    (l44 : K.lookup f44 = some ⟨oc44, od44, .func (PySem.W.fnOf "_law_floor" "_law_floor" (defArgs s_law_floor) (defBody s_law_floor) (defScope s_law_floor) .none kV44 dc44 pm44 an44 cd44 ct44), sl44⟩)
    (c44 : PySem.W.codeIn K cd44 "_law_floor" = true)
    (k44 : PySem.W.keepIn K (.ref f44) = true)
    (a45 : PySem.W.nsIn K mainGlobals "_law_walk" = some (some (.ref f45)))
    (l45 : K.lookup f45 = some ⟨oc45, od45, .func (PySem.W.fnOf "_law_walk" "_law_walk" (defArgs s_law_walk) (defBody s_law_walk) (defScope s_law_walk) .none kV45 dc45 pm45 an45 cd45 ct45), sl45⟩)
    (c45 : PySem.W.codeIn K cd45 "_law_walk" = true)
    (k45 : PySem.W.keepIn K (.ref f45) = true)
    (a46 : PySem.W.nsIn K mainGlobals "law" = some (some (.ref f46)))
    (l46 : K.lookup f46 = some ⟨oc46, od46, .func (PySem.W.fnOf "law" "law" (defArgs s_law) (defBody s_law) (defScope s_law) .none kV46 dc46 pm46 an46 cd46 ct46), sl46⟩)
    (c46 : PySem.W.codeIn K cd46 "law" = true)
    (k46 : PySem.W.keepIn K (.ref f46) = true)
    (z_ValueError : PySem.W.nsIn K mainGlobals "ValueError" = some none)
    (z_all : PySem.W.nsIn K mainGlobals "all" = some none)
    (z_any : PySem.W.nsIn K mainGlobals "any" = some none)
    (z_bool : PySem.W.nsIn K mainGlobals "bool" = some none)
    (z_dict : PySem.W.nsIn K mainGlobals "dict" = some none)
    (z_enumerate : PySem.W.nsIn K mainGlobals "enumerate" = some none)
    (z_int : PySem.W.nsIn K mainGlobals "int" = some none)
    (z_isinstance : PySem.W.nsIn K mainGlobals "isinstance" = some none)
    (z_len : PySem.W.nsIn K mainGlobals "len" = some none)
    (z_min : PySem.W.nsIn K mainGlobals "min" = some none)
    (z_range : PySem.W.nsIn K mainGlobals "range" = some none)
    (z_sorted : PySem.W.nsIn K mainGlobals "sorted" = some none)
    (z_tuple : PySem.W.nsIn K mainGlobals "tuple" = some none)
    (z_zip : PySem.W.nsIn K mainGlobals "zip" = some none)
    (z_lcm : PySem.W.nsIn K mainGlobals "lcm" = some (some (.builtin "math.lcm")))
    (g_FAR : PySem.W.nsIn K mainGlobals "FAR" = some (some (.int 1000000000000000000000000000000000000000000000000000000000000 t_FAR)))
    (g_MOST_STATES : PySem.W.nsIn K mainGlobals "MOST_STATES" = some (some (.int 10 t_MOST_STATES)))
    (g_FEWEST_COLOURS : PySem.W.nsIn K mainGlobals "FEWEST_COLOURS" = some (some (.int 2 t_FEWEST_COLOURS)))
    (g_MOST_COLOURS : PySem.W.nsIn K mainGlobals "MOST_COLOURS" = some (some (.int 6 t_MOST_COLOURS)))
    (g_MOST_SQUARES : PySem.W.nsIn K mainGlobals "MOST_SQUARES" = some (some (.int 4000 t_MOST_SQUARES)))
    (g_MOST_STEPS : PySem.W.nsIn K mainGlobals "MOST_STEPS" = some (some (.int 100000 t_MOST_STEPS)))
    (g_AHEAD : PySem.W.nsIn K mainGlobals "AHEAD" = some (some (.ref hA)))
    (lA : K.lookup hA = some { cls := .type "tuple", data := .seq #[.ref hB0, .ref hB1, .ref hB2, .ref hB3] hn })
    (lB0 : K.lookup hB0 = some { cls := .type "tuple", data := .seq #[.int 0 ht1, .int (-1) ht2] hn0 })
    (lB1 : K.lookup hB1 = some { cls := .type "tuple", data := .seq #[.int 1 ht3, .int 0 ht4] hn1 })
    (lB2 : K.lookup hB2 = some { cls := .type "tuple", data := .seq #[.int 0 ht5, .int 1 ht6] hn2 })
    (lB3 : K.lookup hB3 = some { cls := .type "tuple", data := .seq #[.int (-1) ht7, .int 0 ht8] hn3 })
    (g_LONGEST_PERIOD : PySem.W.nsIn K mainGlobals "LONGEST_PERIOD" = some (some (.int 2000 t_LONGEST_PERIOD)))
    (g_MOST_WALKED : PySem.W.nsIn K mainGlobals "MOST_WALKED" = some (some (.int 30000 t_MOST_WALKED)))
    (a_Stroll : PySem.W.nsIn K mainGlobals "Stroll" = some (some (.ref C_Stroll)))
    (pg_Stroll : PySem.W.plainGet K C_Stroll Str.empty = true)
    (hd_Stroll : PySem.W.hasDictIn K C_Stroll = true)
    (po_Stroll : PySem.W.plainOver K C_Stroll = true)
    (sa_Stroll : PySem.W.findIn K (.ref C_Stroll) "__setattr__" = some (some (.builtin "object.__setattr__")))
    (mk_Stroll : PySem.W.makesIn K C_Stroll = true)
    (kc_Stroll : PySem.W.keepIn K (.ref C_Stroll) = true)
    (n_Stroll_table : PySem.W.findIn K (.ref C_Stroll) "table" = some none)
    (n_Stroll_ground : PySem.W.findIn K (.ref C_Stroll) "ground" = some none)
    (n_Stroll_painted : PySem.W.findIn K (.ref C_Stroll) "painted" = some none)
    (n_Stroll_walker : PySem.W.findIn K (.ref C_Stroll) "walker" = some none)
    (iA_Stroll_init : PySem.W.findIn K (.ref C_Stroll) "__init__" = some (some (.ref f_Stroll_init)))
    (iT_Stroll_init : PySem.W.typeIn K (.ref f_Stroll_init) = some (.type "function"))
    (iL_Stroll_init : K.lookup f_Stroll_init = some ⟨oc_Stroll_init, od_Stroll_init, .func (PySem.W.fnOf "__init__" "Stroll.__init__" (defArgs s_Stroll_init) (defBody s_Stroll_init) (defScope s_Stroll_init) (.ref dT_Stroll_init) kV_Stroll_init dc_Stroll_init pm_Stroll_init an_Stroll_init cd_Stroll_init ct_Stroll_init), sl_Stroll_init⟩)
    (dL_Stroll_init : K.lookup dT_Stroll_init = some { cls := .type "tuple", data := .seq #[.ref hBL] dn_Stroll_init })
    (lBL : K.lookup hBL = some { cls := .type "tuple", data := .seq #[.ref hBL0] nBL })
    (lBL0 : K.lookup hBL0 = some { cls := .type "tuple", data := .seq #[.int 0 tBL] nBL0 })
    (iC_Stroll_init : PySem.W.codeIn K cd_Stroll_init "Stroll.__init__" = true)
    (iK_Stroll_init : PySem.W.keepIn K (.ref f_Stroll_init) = true)
    (iA_Stroll_colour_of : PySem.W.findIn K (.ref C_Stroll) "colour_of" = some (some (.ref f_Stroll_colour_of)))
    (iT_Stroll_colour_of : PySem.W.typeIn K (.ref f_Stroll_colour_of) = some (.type "function"))
    (iL_Stroll_colour_of : K.lookup f_Stroll_colour_of = some ⟨oc_Stroll_colour_of, od_Stroll_colour_of, .func (PySem.W.fnOf "colour_of" "Stroll.colour_of" (defArgs s_Stroll_colour_of) (defBody s_Stroll_colour_of) (defScope s_Stroll_colour_of) .none kV_Stroll_colour_of dc_Stroll_colour_of pm_Stroll_colour_of an_Stroll_colour_of cd_Stroll_colour_of ct_Stroll_colour_of), sl_Stroll_colour_of⟩)
    (iC_Stroll_colour_of : PySem.W.codeIn K cd_Stroll_colour_of "Stroll.colour_of" = true)
    (iK_Stroll_colour_of : PySem.W.keepIn K (.ref f_Stroll_colour_of) = true)
    (iA_Stroll_paint : PySem.W.findIn K (.ref C_Stroll) "paint" = some (some (.ref f_Stroll_paint)))
    (iT_Stroll_paint : PySem.W.typeIn K (.ref f_Stroll_paint) = some (.type "function"))
    (iL_Stroll_paint : K.lookup f_Stroll_paint = some ⟨oc_Stroll_paint, od_Stroll_paint, .func (PySem.W.fnOf "paint" "Stroll.paint" (defArgs s_Stroll_paint) (defBody s_Stroll_paint) (defScope s_Stroll_paint) .none kV_Stroll_paint dc_Stroll_paint pm_Stroll_paint an_Stroll_paint cd_Stroll_paint ct_Stroll_paint), sl_Stroll_paint⟩)
    (iC_Stroll_paint : PySem.W.codeIn K cd_Stroll_paint "Stroll.paint" = true)
    (iK_Stroll_paint : PySem.W.keepIn K (.ref f_Stroll_paint) = true)
    (iA_Stroll_go : PySem.W.findIn K (.ref C_Stroll) "go" = some (some (.ref f_Stroll_go)))
    (iT_Stroll_go : PySem.W.typeIn K (.ref f_Stroll_go) = some (.type "function"))
    (iL_Stroll_go : K.lookup f_Stroll_go = some ⟨oc_Stroll_go, od_Stroll_go, .func (PySem.W.fnOf "go" "Stroll.go" (defArgs s_Stroll_go) (defBody s_Stroll_go) (defScope s_Stroll_go) .none kV_Stroll_go dc_Stroll_go pm_Stroll_go an_Stroll_go cd_Stroll_go ct_Stroll_go), sl_Stroll_go⟩)
    (iC_Stroll_go : PySem.W.codeIn K cd_Stroll_go "Stroll.go" = true)
    (iK_Stroll_go : PySem.W.keepIn K (.ref f_Stroll_go) = true)
    (iA_Stroll_reading : PySem.W.findIn K (.ref C_Stroll) "reading" = some (some (.ref f_Stroll_reading)))
    (iT_Stroll_reading : PySem.W.typeIn K (.ref f_Stroll_reading) = some (.type "function"))
    (iL_Stroll_reading : K.lookup f_Stroll_reading = some ⟨oc_Stroll_reading, od_Stroll_reading, .func (PySem.W.fnOf "reading" "Stroll.reading" (defArgs s_Stroll_reading) (defBody s_Stroll_reading) (defScope s_Stroll_reading) .none kV_Stroll_reading dc_Stroll_reading pm_Stroll_reading an_Stroll_reading cd_Stroll_reading ct_Stroll_reading), sl_Stroll_reading⟩)
    (iC_Stroll_reading : PySem.W.codeIn K cd_Stroll_reading "Stroll.reading" = true)
    (iK_Stroll_reading : PySem.W.keepIn K (.ref f_Stroll_reading) = true)
    (iA_Stroll_has_stopped : PySem.W.findIn K (.ref C_Stroll) "has_stopped" = some (some (.ref f_Stroll_has_stopped)))
    (iT_Stroll_has_stopped : PySem.W.typeIn K (.ref f_Stroll_has_stopped) = some (.type "function"))
    (iL_Stroll_has_stopped : K.lookup f_Stroll_has_stopped = some ⟨oc_Stroll_has_stopped, od_Stroll_has_stopped, .func (PySem.W.fnOf "has_stopped" "Stroll.has_stopped" (defArgs s_Stroll_has_stopped) (defBody s_Stroll_has_stopped) (defScope s_Stroll_has_stopped) .none kV_Stroll_has_stopped dc_Stroll_has_stopped pm_Stroll_has_stopped an_Stroll_has_stopped cd_Stroll_has_stopped ct_Stroll_has_stopped), sl_Stroll_has_stopped⟩)
    (iC_Stroll_has_stopped : PySem.W.codeIn K cd_Stroll_has_stopped "Stroll.has_stopped" = true)
    (iK_Stroll_has_stopped : PySem.W.keepIn K (.ref f_Stroll_has_stopped) = true)
    (a_Course : PySem.W.nsIn K mainGlobals "Course" = some (some (.ref C_Course)))
    (pg_Course : PySem.W.plainGet K C_Course Str.empty = true)
    (hd_Course : PySem.W.hasDictIn K C_Course = true)
    (po_Course : PySem.W.plainOver K C_Course = true)
    (sa_Course : PySem.W.findIn K (.ref C_Course) "__setattr__" = some (some (.builtin "object.__setattr__")))
    (mk_Course : PySem.W.makesIn K C_Course = true)
    (kc_Course : PySem.W.keepIn K (.ref C_Course) = true)
    (n_Course_kind : PySem.W.findIn K (.ref C_Course) "kind" = some none)
    (n_Course_first : PySem.W.findIn K (.ref C_Course) "first" = some none)
    (n_Course_period : PySem.W.findIn K (.ref C_Course) "period" = some none)
    (n_Course_stroll : PySem.W.findIn K (.ref C_Course) "stroll" = some none)
    (n_Course_at_first : PySem.W.findIn K (.ref C_Course) "at_first" = some none)
    (n_Course_start : PySem.W.findIn K (.ref C_Course) "start" = some none)
    (n_Course_ahead : PySem.W.findIn K (.ref C_Course) "ahead" = some none)
    (n_Course_loop : PySem.W.findIn K (.ref C_Course) "loop" = some none)
    (n_Course_end : PySem.W.findIn K (.ref C_Course) "end" = some none)
    (n_Course_steps : PySem.W.findIn K (.ref C_Course) "steps" = some none)
    (n_Course_move : PySem.W.findIn K (.ref C_Course) "move" = some none)
    (iA_Course_init : PySem.W.findIn K (.ref C_Course) "__init__" = some (some (.ref f_Course_init)))
    (iT_Course_init : PySem.W.typeIn K (.ref f_Course_init) = some (.type "function"))
    (iL_Course_init : K.lookup f_Course_init = some ⟨oc_Course_init, od_Course_init, .func (PySem.W.fnOf "__init__" "Course.__init__" (defArgs s_Course_init) (defBody s_Course_init) (defScope s_Course_init) .none kV_Course_init dc_Course_init pm_Course_init an_Course_init cd_Course_init ct_Course_init), sl_Course_init⟩)
    (iC_Course_init : PySem.W.codeIn K cd_Course_init "Course.__init__" = true)
    (iK_Course_init : PySem.W.keepIn K (.ref f_Course_init) = true)
    (iA_Course_holds : PySem.W.findIn K (.ref C_Course) "holds" = some (some (.ref f_Course_holds)))
    (iT_Course_holds : PySem.W.typeIn K (.ref f_Course_holds) = some (.type "function"))
    (iL_Course_holds : K.lookup f_Course_holds = some ⟨oc_Course_holds, od_Course_holds, .func (PySem.W.fnOf "holds" "Course.holds" (defArgs s_Course_holds) (defBody s_Course_holds) (defScope s_Course_holds) .none kV_Course_holds dc_Course_holds pm_Course_holds an_Course_holds cd_Course_holds ct_Course_holds), sl_Course_holds⟩)
    (iC_Course_holds : PySem.W.codeIn K cd_Course_holds "Course.holds" = true)
    (iK_Course_holds : PySem.W.keepIn K (.ref f_Course_holds) = true)
    : ∃ fd : FuncData, (∀ (s : Shared) (v : Value), BindsTo s fd ⟨[v], []⟩ [("script", v)]) ∧ ∀ base : Heap, K.In base → base.Ns mainGlobals mg → FnOk P w K mg base CX0 9 fa fd ["script"] (spLaw K) := by
  have e := hfa.symm.trans (PySem.W.mg_of X G a46)
  cases e
  have D_wall : DefAt K mg "_wall" s_u_wall ["k"] := defAt_mk X G a0 l0 c0 k0 (fun _ _ _ _ _ _ us hl => match us, hl with | [_], _ => rfl)
  have D_is_whole : DefAt K mg "is_whole" s_is_whole ["value", "least", "greatest"] := defAt_mk X G a1 l1 c1 k1 (fun _ _ _ _ _ _ us hl => match us, hl with | [_, _, _], _ => rfl)
  have D_is_place : DefAt K mg "is_place" s_is_place ["value"] := defAt_mk X G a2 l2 c2 k2 (fun _ _ _ _ _ _ us hl => match us, hl with | [_], _ => rfl)
  have D_check_number : DefAt K mg "check_number" s_check_number ["value", "least", "greatest"] := defAt_mk X G a3 l3 c3 k3 (fun _ _ _ _ _ _ us hl => match us, hl with | [_, _, _], _ => rfl)
  have D_check_place : DefAt K mg "check_place" s_check_place ["value"] := defAt_mk X G a4 l4 c4 k4 (fun _ _ _ _ _ _ us hl => match us, hl with | [_], _ => rfl)
  have D_check_table : DefAt K mg "check_table" s_check_table ["value"] := defAt_mk X G a5 l5 c5 k5 (fun _ _ _ _ _ _ us hl => match us, hl with | [_], _ => rfl)
  have D_is_table : DefAt K mg "is_table" s_is_table ["value"] := defAt_mk X G a6 l6 c6 k6 (fun _ _ _ _ _ _ us hl => match us, hl with | [_], _ => rfl)
  have D_is_entry : DefAt K mg "_is_entry" s_u_is_entry ["value", "colours", "states"] := defAt_mk X G a7 l7 c7 k7 (fun _ _ _ _ _ _ us hl => match us, hl with | [_, _, _], _ => rfl)
  have D_check_floor : DefAt K mg "check_floor" s_check_floor ["value", "colours"] := defAt_mk X G a8 l8 c8 k8 (fun _ _ _ _ _ _ us hl => match us, hl with | [_, _], _ => rfl)
  have D_painted_places : DefAt K mg "painted_places" s_painted_places ["floor"] := defAt_mk X G a9 l9 c9 k9 (fun _ _ _ _ _ _ us hl => match us, hl with | [_], _ => rfl)
  have D_ground_colour : DefAt K mg "ground_colour" s_ground_colour ["ground", "place"] := defAt_mk X G a10 l10 c10 k10 (fun _ _ _ _ _ _ us hl => match us, hl with | [_, _], _ => rfl)
  have D_paint_square : DefAt K mg "paint_square" s_paint_square ["painted", "place", "colour"] := defAt_mk X G a11 l11 c11 k11 (fun _ _ _ _ _ _ us hl => match us, hl with | [_, _, _], _ => rfl)
  have D_is_square : DefAt K mg "_is_square" s_u_is_square ["value", "colours"] := defAt_mk X G a12 l12 c12 k12 (fun _ _ _ _ _ _ us hl => match us, hl with | [_, _], _ => rfl)
  have D_check_stand : DefAt K mg "check_stand" s_check_stand ["table", "floor", "walker"] := defAt_mk X G a13 l13 c13 k13 (fun _ _ _ _ _ _ us hl => match us, hl with | [_, _, _], _ => rfl)
  have D_check_walker : DefAt K mg "check_walker" s_check_walker ["value", "states"] := defAt_mk X G a14 l14 c14 k14 (fun _ _ _ _ _ _ us hl => match us, hl with | [_, _], _ => rfl)
  have D_is_walker : DefAt K mg "is_walker" s_is_walker ["value", "states"] := defAt_mk X G a15 l15 c15 k15 (fun _ _ _ _ _ _ us hl => match us, hl with | [_, _], _ => rfl)
  have D_walker_behind : DefAt K mg "_walker_behind" s_u_walker_behind ["walker", "entry"] := defAt_mk X G a16 l16 c16 k16 (fun _ _ _ _ _ _ us hl => match us, hl with | [_, _], _ => rfl)
  have D_shows_paper : DefAt K mg "shows_paper" s_shows_paper ["table", "floor", "walker", "value"] := defAt_mk X G a17 l17 c17 k17 (fun _ _ _ _ _ _ us hl => match us, hl with | [_, _, _, _], _ => rfl)
  have D_is_paper : DefAt K mg "is_paper" s_is_paper ["value"] := defAt_mk X G a18 l18 c18 k18 (fun _ _ _ _ _ _ us hl => match us, hl with | [_], _ => rfl)
  have D_right_course : DefAt K mg "right_course" s_right_course ["table", "floor", "walker", "paper", "step", "place"] := defAt_mk X G a19 l19 c19 k19 (fun _ _ _ _ _ _ us hl => match us, hl with | [_, _, _, _, _, _], _ => rfl)
  have D_judged_course : DefAt K mg "judged_course" s_judged_course ["table", "floor", "walker", "paper"] := defAt_mk X G a20 l20 c20 k20 (fun _ _ _ _ _ _ us hl => match us, hl with | [_, _, _, _], _ => rfl)
  have D_lane_of : DefAt K mg "lane_of" s_lane_of ["place", "move"] := defAt_mk X G a21 l21 c21 k21 (fun _ _ _ _ _ _ us hl => match us, hl with | [_, _], _ => rfl)
  have D_copied : DefAt K mg "_copied" s_u_copied ["painted"] := defAt_mk X G a22 l22 c22 k22 (fun _ _ _ _ _ _ us hl => match us, hl with | [_], _ => rfl)
  have D_repeats_for_ever : DefAt K mg "_repeats_for_ever" s_u_repeats_for_ever ["painted", "loop", "move", "ground"] := defAt_mk X G a23 l23 c23 k23 (fun _ _ _ _ _ _ us hl => match us, hl with | [_, _, _, _], _ => rfl)
  have D_lane_visits : DefAt K mg "_lane_visits" s_u_lane_visits ["loop", "move"] := defAt_mk X G a24 l24 c24 k24 (fun _ _ _ _ _ _ us hl => match us, hl with | [_, _], _ => rfl)
  have D_lane_ground : DefAt K mg "_lane_ground" s_u_lane_ground ["lane", "move", "ground"] := defAt_mk X G a25 l25 c25 k25 (fun _ _ _ _ _ _ us hl => match us, hl with | [_, _, _], _ => rfl)
  have D_lane_repeats : DefAt K mg "_lane_repeats" s_u_lane_repeats ["visits", "colours", "own"] := defAt_mk X G a26 l26 c26 k26 (fun _ _ _ _ _ _ us hl => match us, hl with | [_, _, _], _ => rfl)
  have D_find_paper : DefAt K mg "find_paper" s_find_paper ["table", "floor", "walker", "steps", "most"] := defAt_mk X G a27 l27 c27 k27 (fun _ _ _ _ _ _ us hl => match us, hl with | [_, _, _, _, _], _ => rfl)
  have D_found_paper : DefAt K mg "found_paper" s_found_paper ["table", "floor", "walker", "steps", "most"] := defAt_mk X G a28 l28 c28 k28 (fun _ _ _ _ _ _ us hl => match us, hl with | [_, _, _, _, _], _ => rfl)
  have D_soonest : DefAt K mg "soonest" s_soonest ["table", "floor", "walker", "paper"] := defAt_mk X G a29 l29 c29 k29 (fun _ _ _ _ _ _ us hl => match us, hl with | [_, _, _, _], _ => rfl)
  have D_stances : DefAt K mg "_stances" s_u_stances ["told"] := defAt_mk X G a30 l30 c30 k30 (fun _ _ _ _ _ _ us hl => match us, hl with | [_], _ => rfl)
  have D_likely_papers : DefAt K mg "_likely_papers" s_u_likely_papers ["told", "most"] := defAt_mk X G a31 l31 c31 k31 (fun _ _ _ _ _ _ us hl => match us, hl with | [_, _], _ => rfl)
  have D_likely_periods : DefAt K mg "_likely_periods" s_u_likely_periods ["agree"] := defAt_mk X G a32 l32 c32 k32 (fun _ _ _ _ _ _ us hl => match us, hl with | [_], _ => rfl)
  have D_agreements : DefAt K mg "_agreements" s_u_agreements ["items", "most"] := defAt_mk X G a33 l33 c33 k33 (fun _ _ _ _ _ _ us hl => match us, hl with | [_, _], _ => rfl)
  have D_law_taken : DefAt K mg "_law_taken" s_law_taken ["row", "many"] := defAt_mk X G a34 l34 c34 k34 (fun _ _ _ _ _ _ us hl => match us, hl with | [_, _], _ => rfl)
  have D_law_pick : DefAt K mg "_law_pick" s_law_pick ["row", "things"] := defAt_mk X G a35 l35 c35 k35 (fun _ _ _ _ _ _ us hl => match us, hl with | [_, _], _ => rfl)
  have D_law_known : DefAt K mg "_law_known" s_law_known [] := defAt_mk X G a36 l36 c36 k36 (fun _ _ _ _ _ _ us hl => match us, hl with | [], _ => rfl)
  have D_law_signed : DefAt K mg "_law_signed" s_law_signed ["row", "most"] := defAt_mk X G a37 l37 c37 k37 (fun _ _ _ _ _ _ us hl => match us, hl with | [_, _], _ => rfl)
  have D_law_some_floor : DefAt K mg "_law_some_floor" s_law_some_floor ["row", "colours", "most"] := defAt_mk X G a38 l38 c38 k38 (fun _ _ _ _ _ _ us hl => match us, hl with | [_, _, _], _ => rfl)
  have D_law_stand : DefAt K mg "_law_stand" s_law_stand ["row"] := defAt_mk X G a39 l39 c39 k39 (fun _ _ _ _ _ _ us hl => match us, hl with | [_], _ => rfl)
  have D_law_table : DefAt K mg "_law_table" s_law_table ["row"] := defAt_mk X G a40 l40 c40 k40 (fun _ _ _ _ _ _ us hl => match us, hl with | [_], _ => rfl)
  have D_law_walker : DefAt K mg "_law_walker" s_law_walker ["row", "table"] := defAt_mk X G a41 l41 c41 k41 (fun _ _ _ _ _ _ us hl => match us, hl with | [_, _], _ => rfl)
  have D_law_ahead : DefAt K mg "_law_ahead" s_law_ahead ["place", "heading"] := defAt_mk X G a42 l42 c42 k42 (fun _ _ _ _ _ _ us hl => match us, hl with | [_, _], _ => rfl)
  have D_law_step : DefAt K mg "_law_step" s_law_step ["table", "cells", "walker"] := defAt_mk X G a43 l43 c43 k43 (fun _ _ _ _ _ _ us hl => match us, hl with | [_, _, _], _ => rfl)
  have D_law_floor : DefAt K mg "_law_floor" s_law_floor ["cells"] := defAt_mk X G a44 l44 c44 k44 (fun _ _ _ _ _ _ us hl => match us, hl with | [_], _ => rfl)
  have D_law_walk : DefAt K mg "_law_walk" s_law_walk ["table", "floor", "walker", "many"] := defAt_mk X G a45 l45 c45 k45 (fun _ _ _ _ _ _ us hl => match us, hl with | [_, _, _, _], _ => rfl)
  have F_law : Fun K "law" "law" s_law _ _ := fun_mk (st := s_law) l46 c46 k46
  have T : Txt K mg := ⟨PySem.W.mg_none_of X G z_ValueError, PySem.W.mg_none_of X G z_all, PySem.W.mg_none_of X G z_any, PySem.W.mg_none_of X G z_bool, PySem.W.mg_none_of X G z_dict, PySem.W.mg_none_of X G z_enumerate, PySem.W.mg_none_of X G z_int, PySem.W.mg_none_of X G z_isinstance, PySem.W.mg_none_of X G z_len, PySem.W.mg_none_of X G z_min, PySem.W.mg_none_of X G z_range, PySem.W.mg_none_of X G z_sorted, PySem.W.mg_none_of X G z_tuple, PySem.W.mg_none_of X G z_zip, PySem.W.mg_of X G z_lcm, ⟨_, PySem.W.mg_of X G g_FAR⟩, ⟨_, PySem.W.mg_of X G g_MOST_STATES⟩, ⟨_, PySem.W.mg_of X G g_FEWEST_COLOURS⟩, ⟨_, PySem.W.mg_of X G g_MOST_COLOURS⟩, ⟨_, PySem.W.mg_of X G g_MOST_SQUARES⟩, ⟨_, PySem.W.mg_of X G g_MOST_STEPS⟩, ⟨hA, hB0, hB1, hB2, hB3, PySem.W.mg_of X G g_AHEAD, ktu_of lA (Nat.le_of_ble_eq_true rfl) (.cons rfl (.cons rfl (.cons rfl (.cons rfl .nil)))), (ktu_of lB0 (Nat.le_of_ble_eq_true rfl) (.cons ⟨_, rfl⟩ (.cons ⟨_, rfl⟩ .nil))), (ktu_of lB1 (Nat.le_of_ble_eq_true rfl) (.cons ⟨_, rfl⟩ (.cons ⟨_, rfl⟩ .nil))), (ktu_of lB2 (Nat.le_of_ble_eq_true rfl) (.cons ⟨_, rfl⟩ (.cons ⟨_, rfl⟩ .nil))), (ktu_of lB3 (Nat.le_of_ble_eq_true rfl) (.cons ⟨_, rfl⟩ (.cons ⟨_, rfl⟩ .nil)))⟩, ⟨_, PySem.W.mg_of X G g_LONGEST_PERIOD⟩, ⟨_, PySem.W.mg_of X G g_MOST_WALKED⟩⟩
  have S_Stroll : ClsS K mg C_Stroll := ⟨⟨pg_Stroll, hd_Stroll, po_Stroll, sa_Stroll⟩, n_Stroll_table, n_Stroll_ground, n_Stroll_painted, n_Stroll_walker, PySem.W.mg_of X G a_Stroll⟩
  have hBlank : ∀ H, Tp K H (.ref hBL) blankD := fun H => .tup (ktu_of (xs := [.ref hBL0]) lBL (Nat.le_of_ble_eq_true rfl) (.cons rfl .nil) H) (.cons (.tup (ktu_of (xs := [.int 0]) lBL0 (Nat.le_of_ble_eq_true rfl) (.cons ⟨_, rfl⟩ .nil) H) (.cons (.int 0) .nil)) .nil)
  have M_Stroll_init : MetAtD K C_Stroll "__init__" "Stroll.__init__" s_Stroll_init ["self", "table", "floor", "walker", "ground"] [.ref hBL] := metAtD_mk 4 iA_Stroll_init iT_Stroll_init iL_Stroll_init iC_Stroll_init iK_Stroll_init dL_Stroll_init (.cons rfl .nil) (by simp) rfl (fun _ _ _ _ _ _ _ us its hl hi => match us, its, hl, hi with | [_, _, _, _], [_], _, _ => ⟨_, rfl, rfl⟩)
  have M_Stroll_colour_of : MetAt K C_Stroll "colour_of" "Stroll.colour_of" s_Stroll_colour_of ["self", "place"] := metAt_mk iA_Stroll_colour_of iT_Stroll_colour_of iL_Stroll_colour_of iC_Stroll_colour_of iK_Stroll_colour_of (fun _ _ _ _ _ _ us hl => match us, hl with | [_, _], _ => rfl)
  have M_Stroll_paint : MetAt K C_Stroll "paint" "Stroll.paint" s_Stroll_paint ["self", "place", "colour"] := metAt_mk iA_Stroll_paint iT_Stroll_paint iL_Stroll_paint iC_Stroll_paint iK_Stroll_paint (fun _ _ _ _ _ _ us hl => match us, hl with | [_, _, _], _ => rfl)
  have M_Stroll_go : MetAt K C_Stroll "go" "Stroll.go" s_Stroll_go ["self", "many"] := metAt_mk iA_Stroll_go iT_Stroll_go iL_Stroll_go iC_Stroll_go iK_Stroll_go (fun _ _ _ _ _ _ us hl => match us, hl with | [_, _], _ => rfl)
  have M_Stroll_reading : MetAt K C_Stroll "reading" "Stroll.reading" s_Stroll_reading ["self"] := metAt_mk iA_Stroll_reading iT_Stroll_reading iL_Stroll_reading iC_Stroll_reading iK_Stroll_reading (fun _ _ _ _ _ _ us hl => match us, hl with | [_], _ => rfl)
  have M_Stroll_has_stopped : MetAt K C_Stroll "has_stopped" "Stroll.has_stopped" s_Stroll_has_stopped ["self"] := metAt_mk iA_Stroll_has_stopped iT_Stroll_has_stopped iL_Stroll_has_stopped iC_Stroll_has_stopped iK_Stroll_has_stopped (fun _ _ _ _ _ _ us hl => match us, hl with | [_], _ => rfl)
  have S_Course : ClsC K mg C_Course := ⟨⟨pg_Course, hd_Course, po_Course, sa_Course⟩, n_Course_kind, n_Course_first, n_Course_period, n_Course_stroll, n_Course_at_first, n_Course_start, n_Course_ahead, n_Course_loop, n_Course_end, n_Course_steps, n_Course_move, PySem.W.mg_of X G a_Course⟩
  have M_Course_init : MetAt K C_Course "__init__" "Course.__init__" s_Course_init ["self", "stroll", "paper"] := metAt_mk iA_Course_init iT_Course_init iL_Course_init iC_Course_init iK_Course_init (fun _ _ _ _ _ _ us hl => match us, hl with | [_, _, _], _ => rfl)
  have M_Course_holds : MetAt K C_Course "holds" "Course.holds" s_Course_holds ["self"] := metAt_mk iA_Course_holds iT_Course_holds iL_Course_holds iC_Course_holds iK_Course_holds (fun _ _ _ _ _ _ us hl => match us, hl with | [_], _ => rfl)
  refine ⟨PySem.W.fnOf "law" "law" (defArgs s_law) (defBody s_law) (defScope s_law) .none kV46 dc46 pm46 an46 cd46 ct46, fun s v => .of_eq rfl, fun base hb hg => ?_⟩
  have C_law_taken := ok_law_taken (P := P) (w := w) (base := base) T D_law_taken
  have C_law_table := ok_law_table (P := P) (w := w) (base := base) T D_law_table C_law_taken
  have C_is_whole := ok_is_whole (P := P) (w := w) (base := base) T D_is_whole
  have C_is_entry := ok_u_is_entry (P := P) (w := w) (base := base) T D_is_entry C_is_whole
  have C_is_table := ok_is_table (P := P) (w := w) (base := base) T D_is_table C_is_entry
  have C_check_table := ok_check_table (P := P) (w := w) (base := base) T D_check_table C_is_table
  have C_is_place := ok_is_place (P := P) (w := w) (base := base) T D_is_place C_is_whole
  have C_check_number := ok_check_number (P := P) (w := w) (base := base) T D_check_number C_is_whole
  have C_is_square := ok_u_is_square (P := P) (w := w) (base := base) T D_is_square C_is_whole C_is_place
  have C_is_walker := ok_is_walker (P := P) (w := w) (base := base) T D_is_walker C_is_whole C_is_place
  have C_check_walker := ok_check_walker (P := P) (w := w) (base := base) T D_check_walker C_is_walker
  have C_check_floor := ok_check_floor (P := P) (w := w) (base := base) T D_check_floor C_is_square
  have C_painted_places := ok_painted_places (P := P) (w := w) (base := base) T D_painted_places
  have C_paint_square := ok_paint_square (P := P) (w := w) (base := base) T D_paint_square
  have C_walker_behind := ok_u_walker_behind (P := P) (w := w) (base := base) T D_walker_behind
  have MC_Stroll_init := ok_Stroll_init (P := P) (w := w) (base := base) S_Stroll hBlank M_Stroll_init C_painted_places
  have MC_Stroll_colour_of := ok_Stroll_col (P := P) (w := w) (base := base) S_Stroll M_Stroll_colour_of
  have MC_Stroll_paint := ok_Stroll_paint (P := P) (w := w) (base := base) S_Stroll M_Stroll_paint C_paint_square
  have MC_Stroll_go := ok_Stroll_go2 (P := P) (w := w) (base := base) T S_Stroll MC_Stroll_colour_of MC_Stroll_paint M_Stroll_go C_walker_behind
  have MC_Stroll_reading := ok_Stroll_reading (P := P) (w := w) (base := base) S_Stroll MC_Stroll_colour_of M_Stroll_reading
  have MC_Stroll_has_stopped := ok_Stroll_stopped (P := P) (w := w) (base := base) S_Stroll MC_Stroll_reading M_Stroll_has_stopped
  have C_check_stand := ok_check_stand (P := P) (w := w) (base := base) T D_check_stand C_check_table C_check_floor C_check_walker
  have C_copied := ok_u_copied (P := P) (w := w) (base := base) T D_copied
  have MC_Course_init := ok_Course_init (P := P) (w := w) (base := base) T S_Stroll S_Course MC_Stroll_go M_Course_init C_copied
  have C_ground_colour := ok_ground_colour0 (P := P) (w := w) (base := base) T D_ground_colour
  have C_lane_of := ok_lane_of (P := P) (w := w) (base := base) T D_lane_of
  have C_lane_ground := ok_u_lane_ground (P := P) (w := w) (base := base) T D_lane_ground C_ground_colour
  have C_lane_repeats := ok_u_lane_repeats (P := P) (w := w) (base := base) T D_lane_repeats
  have C_lane_visits := ok_u_lane_visits (P := P) (w := w) (base := base) T D_lane_visits C_lane_of
  have C_repeats_for_ever := ok_u_repeats_for_ever (P := P) (w := w) (base := base) T D_repeats_for_ever C_lane_visits C_lane_of C_lane_repeats C_lane_ground
  have MC_Course_holds := ok_Course_holds (P := P) (w := w) (base := base) T S_Stroll S_Course MC_Stroll_has_stopped M_Course_holds C_repeats_for_ever
  have C_stances := ok_u_stances (P := P) (w := w) (base := base) T D_stances
  have C_agreements := ok_u_agreements (P := P) (w := w) (base := base) T D_agreements
  have C_likely_periods := ok_u_likely_periods (P := P) (w := w) (base := base) T D_likely_periods
  have C_likely_papers := ok_u_likely_papers (P := P) (w := w) (base := base) T D_likely_papers C_stances C_agreements C_likely_periods
  have C_found_paper := ok_found_paper (P := P) (w := w) (base := base) T S_Stroll S_Course mk_Stroll kc_Stroll mk_Course kc_Course MC_Stroll_init MC_Stroll_go MC_Stroll_has_stopped MC_Course_init MC_Course_holds D_found_paper C_check_number C_likely_papers
  have C_find_paper := ok_find_paper (P := P) (w := w) (base := base) T D_find_paper C_check_stand C_found_paper
  have C_is_paper := ok_is_paper (P := P) (w := w) (base := base) T D_is_paper C_is_whole
  have C_shows_paper := ok_shows_paper (P := P) (w := w) (base := base) T S_Stroll S_Course mk_Stroll kc_Stroll mk_Course kc_Course MC_Stroll_init MC_Course_init MC_Course_holds D_shows_paper C_check_stand C_is_paper
  have C_judged_course := ok_judged_course (P := P) (w := w) (base := base) T S_Stroll S_Course mk_Stroll kc_Stroll mk_Course kc_Course MC_Stroll_init MC_Course_init MC_Course_holds D_judged_course C_is_paper
  have C_check_place := ok_check_place (P := P) (w := w) (base := base) T D_check_place C_is_place
  have C_right_course := ok_right_course (P := P) (w := w) (base := base) (CC := C_Course) (C := C_Stroll) T D_right_course C_check_stand C_judged_course C_check_number C_check_place
  have C_law_known := ok_law_known (P := P) (w := w) (base := base) T D_law_known
  have C_law_pick := ok_law_pick (P := P) (w := w) (base := base) T D_law_pick C_law_taken
  have C_law_signed := ok_law_signed (P := P) (w := w) (base := base) T D_law_signed C_law_taken
  have C_law_walker := ok_law_walker (P := P) (w := w) (base := base) T D_law_walker C_law_taken C_law_signed
  have C_law_ahead := ok_law_ahead (P := P) (w := w) (base := base) T D_law_ahead
  have C_law_floor := ok_law_floor (P := P) (w := w) (base := base) T D_law_floor
  have C_law_some_floor := ok_law_some_floor (P := P) (w := w) (base := base) T D_law_some_floor C_law_taken C_law_signed
  have C_law_stand := ok_law_stand (P := P) (w := w) (base := base) T D_law_stand C_law_known C_law_pick C_law_taken C_law_some_floor
  have C_law_step := ok_law_step (P := P) (w := w) (base := base) T D_law_step C_law_ahead
  have C_law_walk := ok_law_walk (P := P) (w := w) (base := base) T D_law_walk C_law_step C_law_floor
  have C_soonest := ok_soonest (P := P) (w := w) (base := base) (C := C_Stroll) T S_Course D_soonest C_right_course C_stances
  exact ok_law T F_law C_law_stand C_law_taken C_law_table C_law_some_floor C_law_walker C_law_walk C_law_step C_find_paper C_soonest C_shows_paper
end Sb
open PySem PySem.W PyProof.Rows
set_option maxHeartbeats 0 in
theorem PySem.Challenge.cw_streetpapers_k07_whole_finding_holds : PySem.Challenge.rw_streetpapers_k07_whole_finding.Holds := by
  w_on; o_law; k_head; (case hw => w_witness2)
  k_fill
  refine L2.walk_of (l := PySem.Challenge.rw_streetpapers_k07_whole_finding) (n := 63) (k := 9) (x := "script") (CX := fun _ => L2.CX0) (sp := fun w => Sb.spLaw _) rfl (by decide) rfl ⟨rfl, by decide, by decide⟩ (fun w h Y => PySem.W.kIn_of Y) ?F (fun _ _ a ns hl o hS => ⟨a, ns, rfl, Sb.Scr.of o hS, fun _ => rfl⟩) (fun _ _ _ _ _ h => h)
  case F =>
    intro w mg fa h KX G hmg
    refine' Sb.all_mk KX G hmg ?a0 ?l0 ?c0 ?k0 ?a1 ?l1 ?c1 ?k1 ?a2 ?l2 ?c2 ?k2 ?a3 ?l3 ?c3 ?k3 ?a4 ?l4 ?c4 ?k4 ?a5 ?l5 ?c5 ?k5 ?a6 ?l6 ?c6 ?k6 ?a7 ?l7 ?c7 ?k7 ?a8 ?l8 ?c8 ?k8 ?a9 ?l9 ?c9 ?k9 ?a10 ?l10 ?c10 ?k10 ?a11 ?l11 ?c11 ?k11 ?a12 ?l12 ?c12 ?k12 ?a13 ?l13 ?c13 ?k13 ?a14 ?l14 ?c14 ?k14 ?a15 ?l15 ?c15 ?k15 ?a16 ?l16 ?c16 ?k16 ?a17 ?l17 ?c17 ?k17 ?a18 ?l18 ?c18 ?k18 ?a19 ?l19 ?c19 ?k19 ?a20 ?l20 ?c20 ?k20 ?a21 ?l21 ?c21 ?k21 ?a22 ?l22 ?c22 ?k22 ?a23 ?l23 ?c23 ?k23 ?a24 ?l24 ?c24 ?k24 ?a25 ?l25 ?c25 ?k25 ?a26 ?l26 ?c26 ?k26 ?a27 ?l27 ?c27 ?k27 ?a28 ?l28 ?c28 ?k28 ?a29 ?l29 ?c29 ?k29 ?a30 ?l30 ?c30 ?k30 ?a31 ?l31 ?c31 ?k31 ?a32 ?l32 ?c32 ?k32 ?a33 ?l33 ?c33 ?k33 ?a34 ?l34 ?c34 ?k34 ?a35 ?l35 ?c35 ?k35 ?a36 ?l36 ?c36 ?k36 ?a37 ?l37 ?c37 ?k37 ?a38 ?l38 ?c38 ?k38 ?a39 ?l39 ?c39 ?k39 ?a40 ?l40 ?c40 ?k40 ?a41 ?l41 ?c41 ?k41 ?a42 ?l42 ?c42 ?k42 ?a43 ?l43 ?c43 ?k43 ?a44 ?l44 ?c44 ?k44 ?a45 ?l45 ?c45 ?k45 ?a46 ?l46 ?c46 ?k46 ?z_ValueError ?z_all ?z_any ?z_bool ?z_dict ?z_enumerate ?z_int ?z_isinstance ?z_len ?z_min ?z_range ?z_sorted ?z_tuple ?z_zip ?z_lcm ?g_FAR ?g_MOST_STATES ?g_FEWEST_COLOURS ?g_MOST_COLOURS ?g_MOST_SQUARES ?g_MOST_STEPS ?g_AHEAD ?lA ?lB0 ?lB1 ?lB2 ?lB3 ?g_LONGEST_PERIOD ?g_MOST_WALKED ?a_Stroll ?pg_Stroll ?hd_Stroll ?po_Stroll ?sa_Stroll ?mk_Stroll ?kc_Stroll ?n_Stroll_table ?n_Stroll_ground ?n_Stroll_painted ?n_Stroll_walker ?iA_Stroll_init ?iT_Stroll_init ?iL_Stroll_init ?dL_Stroll_init ?lBL ?lBL0 ?iC_Stroll_init ?iK_Stroll_init ?iA_Stroll_colour_of ?iT_Stroll_colour_of ?iL_Stroll_colour_of ?iC_Stroll_colour_of ?iK_Stroll_colour_of ?iA_Stroll_paint ?iT_Stroll_paint ?iL_Stroll_paint ?iC_Stroll_paint ?iK_Stroll_paint ?iA_Stroll_go ?iT_Stroll_go ?iL_Stroll_go ?iC_Stroll_go ?iK_Stroll_go ?iA_Stroll_reading ?iT_Stroll_reading ?iL_Stroll_reading ?iC_Stroll_reading ?iK_Stroll_reading ?iA_Stroll_has_stopped ?iT_Stroll_has_stopped ?iL_Stroll_has_stopped ?iC_Stroll_has_stopped ?iK_Stroll_has_stopped ?a_Course ?pg_Course ?hd_Course ?po_Course ?sa_Course ?mk_Course ?kc_Course ?n_Course_kind ?n_Course_first ?n_Course_period ?n_Course_stroll ?n_Course_at_first ?n_Course_start ?n_Course_ahead ?n_Course_loop ?n_Course_end ?n_Course_steps ?n_Course_move ?iA_Course_init ?iT_Course_init ?iL_Course_init ?iC_Course_init ?iK_Course_init ?iA_Course_holds ?iT_Course_holds ?iL_Course_holds ?iC_Course_holds ?iK_Course_holds
    (case a0 => k_is)
    (case l0 => k_is)
    (case c0 => k_is)
    (case k0 => k_is)
    (case a1 => k_is)
    (case l1 => k_is)
    (case c1 => k_is)
    (case k1 => k_is)
    (case a2 => k_is)
    (case l2 => k_is)
    (case c2 => k_is)
    (case k2 => k_is)
    (case a3 => k_is)
    (case l3 => k_is)
    (case c3 => k_is)
    (case k3 => k_is)
    (case a4 => k_is)
    (case l4 => k_is)
    (case c4 => k_is)
    (case k4 => k_is)
    (case a5 => k_is)
    (case l5 => k_is)
    (case c5 => k_is)
    (case k5 => k_is)
    (case a6 => k_is)
    (case l6 => k_is)
    (case c6 => k_is)
    (case k6 => k_is)
    (case a7 => k_is)
    (case l7 => k_is)
    (case c7 => k_is)
    (case k7 => k_is)
    (case a8 => k_is)
    (case l8 => k_is)
    (case c8 => k_is)
    (case k8 => k_is)
    (case a9 => k_is)
    (case l9 => k_is)
    (case c9 => k_is)
    (case k9 => k_is)
    (case a10 => k_is)
    (case l10 => k_is)
    (case c10 => k_is)
    (case k10 => k_is)
    (case a11 => k_is)
    (case l11 => k_is)
    (case c11 => k_is)
    (case k11 => k_is)
    (case a12 => k_is)
    (case l12 => k_is)
    (case c12 => k_is)
    (case k12 => k_is)
    (case a13 => k_is)
    (case l13 => k_is)
    (case c13 => k_is)
    (case k13 => k_is)
    (case a14 => k_is)
    (case l14 => k_is)
    (case c14 => k_is)
    (case k14 => k_is)
    (case a15 => k_is)
    (case l15 => k_is)
    (case c15 => k_is)
    (case k15 => k_is)
    (case a16 => k_is)
    (case l16 => k_is)
    (case c16 => k_is)
    (case k16 => k_is)
    (case a17 => k_is)
    (case l17 => k_is)
    (case c17 => k_is)
    (case k17 => k_is)
    (case a18 => k_is)
    (case l18 => k_is)
    (case c18 => k_is)
    (case k18 => k_is)
    (case a19 => k_is)
    (case l19 => k_is)
    (case c19 => k_is)
    (case k19 => k_is)
    (case a20 => k_is)
    (case l20 => k_is)
    (case c20 => k_is)
    (case k20 => k_is)
    (case a21 => k_is)
    (case l21 => k_is)
    (case c21 => k_is)
    (case k21 => k_is)
    (case a22 => k_is)
    (case l22 => k_is)
    (case c22 => k_is)
    (case k22 => k_is)
    (case a23 => k_is)
    (case l23 => k_is)
    (case c23 => k_is)
    (case k23 => k_is)
    (case a24 => k_is)
    (case l24 => k_is)
    (case c24 => k_is)
    (case k24 => k_is)
    (case a25 => k_is)
    (case l25 => k_is)
    (case c25 => k_is)
    (case k25 => k_is)
    (case a26 => k_is)
    (case l26 => k_is)
    (case c26 => k_is)
    (case k26 => k_is)
    (case a27 => k_is)
    (case l27 => k_is)
    (case c27 => k_is)
    (case k27 => k_is)
    (case a28 => k_is)
    (case l28 => k_is)
    (case c28 => k_is)
    (case k28 => k_is)
    (case a29 => k_is)
    (case l29 => k_is)
    (case c29 => k_is)
    (case k29 => k_is)
    (case a30 => k_is)
    (case l30 => k_is)
    (case c30 => k_is)
    (case k30 => k_is)
    (case a31 => k_is)
    (case l31 => k_is)
    (case c31 => k_is)
    (case k31 => k_is)
    (case a32 => k_is)
    (case l32 => k_is)
    (case c32 => k_is)
    (case k32 => k_is)
    (case a33 => k_is)
    (case l33 => k_is)
    (case c33 => k_is)
    (case k33 => k_is)
    (case a34 => k_is)
    (case l34 => k_is)
    (case c34 => k_is)
    (case k34 => k_is)
    (case a35 => k_is)
    (case l35 => k_is)
    (case c35 => k_is)
    (case k35 => k_is)
    (case a36 => k_is)
    (case l36 => k_is)
    (case c36 => k_is)
    (case k36 => k_is)
    (case a37 => k_is)
    (case l37 => k_is)
    (case c37 => k_is)
    (case k37 => k_is)
    (case a38 => k_is)
    (case l38 => k_is)
    (case c38 => k_is)
    (case k38 => k_is)
    (case a39 => k_is)
    (case l39 => k_is)
    (case c39 => k_is)
    (case k39 => k_is)
    (case a40 => k_is)
    (case l40 => k_is)
    (case c40 => k_is)
    (case k40 => k_is)
    (case a41 => k_is)
    (case l41 => k_is)
    (case c41 => k_is)
    (case k41 => k_is)
    (case a42 => k_is)
    (case l42 => k_is)
    (case c42 => k_is)
    (case k42 => k_is)
    (case a43 => k_is)
    (case l43 => k_is)
    (case c43 => k_is)
    (case k43 => k_is)
    (case a44 => k_is)
    (case l44 => k_is)
    (case c44 => k_is)
    (case k44 => k_is)
    (case a45 => k_is)
    (case l45 => k_is)
    (case c45 => k_is)
    (case k45 => k_is)
    (case a46 => k_is)
    (case l46 => k_is)
    (case c46 => k_is)
    (case k46 => k_is)
    (case z_ValueError => k_is)
    (case z_all => k_is)
    (case z_any => k_is)
    (case z_bool => k_is)
    (case z_dict => k_is)
    (case z_enumerate => k_is)
    (case z_int => k_is)
    (case z_isinstance => k_is)
    (case z_len => k_is)
    (case z_min => k_is)
    (case z_range => k_is)
    (case z_sorted => k_is)
    (case z_tuple => k_is)
    (case z_zip => k_is)
    (case z_lcm => k_is)
    (case g_FAR => k_is)
    (case g_MOST_STATES => k_is)
    (case g_FEWEST_COLOURS => k_is)
    (case g_MOST_COLOURS => k_is)
    (case g_MOST_SQUARES => k_is)
    (case g_MOST_STEPS => k_is)
    (case g_AHEAD => k_is)
    (case lA => k_is)
    (case lB0 => k_is)
    (case lB1 => k_is)
    (case lB2 => k_is)
    (case lB3 => k_is)
    (case g_LONGEST_PERIOD => k_is)
    (case g_MOST_WALKED => k_is)
    (case a_Stroll => k_is)
    (case pg_Stroll => k_is)
    (case hd_Stroll => k_is)
    (case po_Stroll => k_is)
    (case sa_Stroll => k_is)
    (case mk_Stroll => k_is)
    (case kc_Stroll => k_is)
    (case n_Stroll_table => k_is)
    (case n_Stroll_ground => k_is)
    (case n_Stroll_painted => k_is)
    (case n_Stroll_walker => k_is)
    (case iA_Stroll_init => k_is)
    (case iT_Stroll_init => k_is)
    (case iL_Stroll_init => k_is)
    (case dL_Stroll_init => k_is)
    (case lBL => k_is)
    (case lBL0 => k_is)
    (case iC_Stroll_init => k_is)
    (case iK_Stroll_init => k_is)
    (case iA_Stroll_colour_of => k_is)
    (case iT_Stroll_colour_of => k_is)
    (case iL_Stroll_colour_of => k_is)
    (case iC_Stroll_colour_of => k_is)
    (case iK_Stroll_colour_of => k_is)
    (case iA_Stroll_paint => k_is)
    (case iT_Stroll_paint => k_is)
    (case iL_Stroll_paint => k_is)
    (case iC_Stroll_paint => k_is)
    (case iK_Stroll_paint => k_is)
    (case iA_Stroll_go => k_is)
    (case iT_Stroll_go => k_is)
    (case iL_Stroll_go => k_is)
    (case iC_Stroll_go => k_is)
    (case iK_Stroll_go => k_is)
    (case iA_Stroll_reading => k_is)
    (case iT_Stroll_reading => k_is)
    (case iL_Stroll_reading => k_is)
    (case iC_Stroll_reading => k_is)
    (case iK_Stroll_reading => k_is)
    (case iA_Stroll_has_stopped => k_is)
    (case iT_Stroll_has_stopped => k_is)
    (case iL_Stroll_has_stopped => k_is)
    (case iC_Stroll_has_stopped => k_is)
    (case iK_Stroll_has_stopped => k_is)
    (case a_Course => k_is)
    (case pg_Course => k_is)
    (case hd_Course => k_is)
    (case po_Course => k_is)
    (case sa_Course => k_is)
    (case mk_Course => k_is)
    (case kc_Course => k_is)
    (case n_Course_kind => k_is)
    (case n_Course_first => k_is)
    (case n_Course_period => k_is)
    (case n_Course_stroll => k_is)
    (case n_Course_at_first => k_is)
    (case n_Course_start => k_is)
    (case n_Course_ahead => k_is)
    (case n_Course_loop => k_is)
    (case n_Course_end => k_is)
    (case n_Course_steps => k_is)
    (case n_Course_move => k_is)
    (case iA_Course_init => k_is)
    (case iT_Course_init => k_is)
    (case iL_Course_init => k_is)
    (case iC_Course_init => k_is)
    (case iK_Course_init => k_is)
    (case iA_Course_holds => k_is)
    (case iT_Course_holds => k_is)
    (case iL_Course_holds => k_is)
    (case iC_Course_holds => k_is)
    (case iK_Course_holds => k_is)
