import PyProof.Rows.All
import Wide.All
import OpenK.AllK
import Wide.FinOn
import PyProof.ReprRoads
import HandS.ForMost
import HandS.Wide
import PyProof.StrLawsRepr
import PyProof.ReprLen
import HandS.TupAny
import HandS.Gcd
import HandS.More
import HandS.IsInst
import HandS.Style
import HandS.Defaults
import Flt.RightSqrt
import HandS.Codes
import HandS.TryOnly
import HandS.Iter
import HandS.Walk
import HandS.WideBits
import KE.BitLaws
import HandS.SortInts
import PySem.Challenge.RW_pointsum_k13_whole_least_models
set_option Elab.async false
set_option linter.all false
set_option maxRecDepth 100000
/-! Promises that know that no repr is under way around the call; repr of plain data. -/
namespace Gd
open PySem PySem.Spec PyProof.Rows L2
/-- as the layer's FnOk, for calls around which nothing is being shown -/
structure FnG (P : Program) (w : World) (K : PySem.W.Frag) (mg : Str → Option Value) (base : Heap) (k : Nat) (f : Addr) (fd : FuncData) (ps : List Str) (sp : Sp) : Prop where
  many : ∀ vs H Q E, sp vs H Q E → vs.length = ps.length
  goes : ∀ (A : Around) (outer : List Env) (s : Shared) (H : Hp) (args : Args) (us : List Value) (vs : List V) (Q : VK) (E : XK), A.guards = some [] → Room k A → Env0 P w K mg base A outer s H →
    BindsTo s fd args (ps.zip us) → Vals vs us → sp vs H Q E → codeAny (model P w) A (.call (.ref f) args) (CR CX0 outer P w H s Q E) s
section
variable {P : Program} {w : World} {K : PySem.W.Frag} {mg : Str → Option Value} {base : Heap}
theorem FnG.of {k : Nat} {f : Addr} {fd : FuncData} {ps : List Str} {sp : Sp} (F : FnOk P w K mg base CX0 k f fd ps sp) : FnG P w K mg base k f fd ps sp :=
  ⟨F.len, fun A outer s H args us vs Q E _ => F.run A outer s H args us vs Q E⟩
theorem FnG.up {j k : Nat} {f : Addr} {fd : FuncData} {ps : List Str} {sp : Sp} (F : FnG P w K mg base j f fd ps sp) (h : j ≤ k) : FnG P w K mg base k f fd ps sp :=
  ⟨F.many, fun A outer s H args us vs Q E hg hr => F.goes A outer s H args us vs Q E hg (hr.mono h)⟩
/-- a def by its body -/
theorem FnG.by_body {x qual : Str} {st : Stmt} {f : Addr} {fd : FuncData} {N ps : List Str} {k : Nat} {sp : Sp} (F : Fun K x qual st f fd) (S : FnScope N ps (defScope st)) (len : ∀ vs H Q E, sp vs H Q E → vs.length = ps.length)
    (hb : ∀ (cdv : Value) (A : Around) (outer : List Env) (s : Shared) (H : Hp) (vs : List V) (Q : VK) (E : XK), A.guards = some [] → Room k (A.deeper (envOfC qual (defScope st) s.heap.objs.size f cdv)) → sp vs H Q E →
      ∃ t, PSs (cxOf CX0 P w K mg base N qual (defScope st) f cdv A outer s H E).nox (defBody st) t ∧ t { nx := fun _ H' => Q .non H', rt := Q } (start N vs) H) : FnG P w K mg base (k + 1) f fd ps sp := by
  obtain ⟨oc, od, kV, doc, pm, an, cdv, ct, osl, rfl, lk, hcd⟩ := F.ex
  constructor
  · exact len
  · intro A outer s H args us vs Q E hg hr e0 hbi rv hsp
    have hlen := len _ _ _ _ hsp
    have lim : s.heap.NoLimit := e0.mod.nolimit.keeps fun b o e => (e0.bs b o e).1
    have inK : K.In s.heap := e0.mod.kin.keeps fun b o e => (e0.bs b o e).1
    have kinds : ∀ y ∈ ps.zip us, (defScope st).names.lookup y.1 = some .local ∨ ((defScope st).names.lookup y.1 = some .cell ∧ ((cellsFrom (s.heap.objs.size + 1) (defScope st).names []).lookup y.1).isSome = true) := by
      rintro ⟨n, v⟩ hy
      have hp := S.par n (List.of_mem_zip hy).1
      cases hp with
      | inl q => exact Or.inl q
      | inr q => exact Or.inr ⟨q, PySem.W.cellsFrom_some _ _ _ (Or.inl q)⟩
    refine codeAny_call_function hr.depth (inK _ _ lk) rfl S.co S.gen rfl (PySem.W.codeRec_of inK hcd) (hbi _ _ _ _ ?_)
    refine wpAny_newFunctionEnv_cells S.kind kinds fun env he s1 x1 => ?_
    subst he
    refine ⟨lim.keeps x1.toInCall.keep, codeAny_func ?_⟩
    obtain ⟨t, ht, hq⟩ := hb cdv A outer s H vs Q E hg (hr.deeper _) hsp
    have I0 : Inv (cxOf CX0 P w K mg base N qual (defScope st) f cdv A outer s H E) [] (start N vs) H s1 := inv_start S hr.hd e0 hlen rv x1
    refine wpAny_mono (ht.nox.run [] s1 (start N vs) H _ I0 hq) (fun fl s' hs => ?_) fun e s' hs => hs
    match fl, hs with
    | .ret u, ⟨v, σ', H', J, r1, q1⟩ => exact ⟨v, H', J.os, J.bare, J.base, J.hok, r1, q1⟩
    | .next, ⟨σ', H', J, q1⟩ => exact ⟨V.non, H', J.os, J.bare, J.base, J.hok, rfl, q1⟩
    | .brk, ⟨_, _, _, q1⟩ => exact q1.elim
    | .cont, ⟨_, _, _, q1⟩ => exact q1.elim
end
/-- f(e, ..) where every parameter is given -/
def tKal (sp : Sp) (t : TA) : TE := fun σ H Q => t σ H fun vs H1 => sp vs H1 Q E0
/-- a def that may be called by its name -/
structure Kl (P : Program) (w : World) (K : PySem.W.Frag) (mg : Str → Option Value) (base : Heap) (k : Nat) (x : Str) (sp : Sp) : Prop where
  ex : ∃ (f : Addr) (fd : FuncData) (ps : List Str), FnOk P w K mg base CX0 k f fd ps sp ∧ mg x = some (.ref f) ∧ PySem.W.keepIn K (.ref f) = true ∧ Binds K fd ps []
structure Kg (P : Program) (w : World) (K : PySem.W.Frag) (mg : Str → Option Value) (base : Heap) (k : Nat) (x : Str) (sp : Sp) : Prop where
  ex : ∃ (f : Addr) (fd : FuncData) (ps : List Str), FnG P w K mg base k f fd ps sp ∧ mg x = some (.ref f) ∧ PySem.W.keepIn K (.ref f) = true ∧ Binds K fd ps []
section
variable {X : Cx} {j k : Nat} {f : Addr} {fd : FuncData} {ps : List Str} {sp : Sp} {x : Str} {p pos : Pos} {e : Expr} {es : List Expr} {t : TA}
theorem run_g {pins : List (Addr × Obj)} {σ : L2.St} {H : Hp} {s : Shared} {Q : VK} {us : List Value} {vs : List V} (F : FnG X.prog X.w X.K X.mg X.base k f fd ps sp) (hg : X.A.guards = some []) (hr : Room k X.A) (hb : Binds X.K fd ps [])
    (I : Inv X pins σ H s) (r : Vals vs us) (h : sp vs H Q E0) : wpAny (model X.prog X.w) X.A (call (.ref f) us) (EP X pins σ Q) X.xe s := by
  have hl : us.length = ps.length := r.length.symm.trans (F.many _ _ _ _ h)
  have hbb := hb s us I.kIn (by rw [List.append_nil]; exact hl)
  rw [List.append_nil] at hbb
  refine wpAny_call (codeAny_mono (F.goes X.A X.stack s H ⟨us, []⟩ us vs Q E0 hg hr I.env0 hbb r h) fun res s' hq => ?_)
  match res, hq with
  | .ok (.ret u), hq => exact I.after hq
  | .error e, hq => exact (show False from hq).elim
theorem pe_g (c : Kg X.prog X.w X.K X.mg X.base k x sp) (hgd : X.A.guards = some []) (hr : Room j X.A) (hk : k ≤ j) (hg : Gl X x) (ha : PA X (e :: es) t)
    (hdb : (x == ("__debug__" : Str)) = false := by decide) (he : starEach (e :: es) X.env = (false, eval e X.env) :: starEach es X.env := by rfl) (hpl : (backTo pos (starEach es X.env)).any (·.1) = false := by rfl) :
    PE X (.Call (.Name x p) (e :: es) [] pos) (tKal sp t) := by
  obtain ⟨f, fd, ps, F, hm, kp, b⟩ := c.ex
  constructor
  intro pins s σ H Q I h
  refine wpAny_Call_Name_kw (ld_glob I hg hm ?_ hdb)
  refine PySem.W.callWith_K (h₀ := X.base) I.ok.mod.kin kp (thn (ha.run pos pins s σ H _ I h) fun us s1 ⟨vs, H1, I1, r, q⟩ => ⟨I1.kIn, ?_⟩) he hpl
  exact run_g F hgd (hr.mono hk) b I1 r q
theorem pe_k (c : Kl X.prog X.w X.K X.mg X.base k x sp) (hr : Room j X.A) (hk : k ≤ j) (hg : Gl X x) (ha : PA X (e :: es) t)
    (hdb : (x == ("__debug__" : Str)) = false := by decide) (he : starEach (e :: es) X.env = (false, eval e X.env) :: starEach es X.env := by rfl) (hpl : (backTo pos (starEach es X.env)).any (·.1) = false := by rfl) :
    PE X (.Call (.Name x p) (e :: es) [] pos) (tKal sp t) := by
  obtain ⟨f, fd, ps, F, hm, kp, b⟩ := c.ex
  have h := pe_call (sp := sp) (E := E0) (dvs := []) F (hr.mono hk) hg hm kp b .nil pass0 ha hdb he hpl (pos := pos) (p := p)
  constructor
  intro pins s σ H Q I q
  refine h.run pins s σ H Q I ?_
  have e2 : tCall sp [] E0 t = tKal sp t := by
    funext σ H Q
    show t σ H (fun vs H1 => sp (vs ++ []) H1 Q E0) = t σ H (fun vs H1 => sp vs H1 Q E0)
    congr 1
    funext vs H1
    rw [List.append_nil]
  rw [e2]
  exact q
end
/-! ### repr of plain data -/
mutual
/-- at most so many signs -/
def wt : PyData → Nat
  | .none | .bool _ => 5
  | .int _ => 1921
  | .str x => 10 * x.length + 2
  | .list xs | .tuple xs => wtAll xs + 3
  | .dict _ => 0
def wtAll : List PyData → Nat
  | [] => 0
  | x :: xs => wt x + 2 + wtAll xs
end
mutual
/-- data that can be shown: its ints below 1920 bits -/
def okD : PyData → Bool
  | .none | .bool _ => true
  | .int i => decide (i.natAbs.log2 < 1920)
  | .str x => x.cps.toList.all fun c => decide (c < 16 ^ 8)
  | .list xs | .tuple xs => okAll xs
  | .dict _ => false
def okAll : List PyData → Bool
  | [] => true
  | x :: xs => okD x && okAll xs
end
theorem one_br : (("[" : Str)).length = 1 := rfl
theorem one_br2 : (("]" : Str)).length = 1 := rfl
theorem one_pa : (("(" : Str)).length = 1 := rfl
theorem tup_wt (ts : List Str) : (tupleText ts).length ≤ piled ts + 3 := by
  have e3 : (((if ts.length == 1 then ",)" else ")" : String) : Str)).length ≤ 2 := by split <;> decide +kernel
  unfold tupleText
  rw [strLen_append, strLen_append, one_pa]
  cases ts with
  | nil =>
    have : (Str.join ", " []).length = 0 := by decide +kernel
    omega
  | cons x r =>
    have := join_length_add (x :: r) (List.cons_ne_nil _ _)
    omega
theorem sum_piled : ∀ ts : List Str, (ts.map (·.length)).sum + 2 * ts.length = piled ts
  | [] => rfl
  | t :: ts => by
    have ih := sum_piled ts
    rw [piled_cons, ← ih, List.map_cons, List.sum_cons, List.length_cons]
    omega
theorem lst_wt (ts : List Str) : (listText ts).length ≤ piled ts + 3 := by
  have h := textFrom_len_le ts 0 "["
  have h2 := sum_piled ts
  unfold listText
  rw [strLen_append, one_br2]
  rw [one_br] at h
  omega
mutual
theorem shown_wt : ∀ d : PyData, okD d = true → d.shown.length ≤ wt d ∧ d.showable = true ∧ d.hasDict = false
  | .none, _ => by
    refine ⟨?_, rfl, rfl⟩
    show (("None" : Str)).length ≤ 5
    decide +kernel
  | .bool b, _ => by
    refine ⟨?_, rfl, rfl⟩
    cases b <;> (show _ ≤ 5; decide +kernel)
  | .int i, h => by
    have h1 : i.natAbs.log2 < 1920 := of_decide_eq_true (by simpa only [okD] using h)
    refine ⟨?_, by simpa only [PyData.showable] using decide_eq_true h1, rfl⟩
    have e := int_text_length_le (k := 1920) (by decide) h1
    show (Str.ofString (toString i)).length ≤ 1921
    rw [PySem.ofString_length]
    exact e
  | .str x, h => by
    refine ⟨?_, rfl, rfl⟩
    have h1 : ∀ c ∈ x.cps.toList, c < 16 ^ 8 := fun c hc => of_decide_eq_true (List.all_eq_true.mp (by simpa only [okD] using h) c hc)
    exact StrLaws.reprText_len x h1
  | .list xs, h => by
    obtain ⟨h1, h2, h3⟩ := shown_wtAll xs (by simpa only [okD] using h)
    refine ⟨?_, by simpa only [PyData.showable] using h2, by simpa only [PyData.hasDict] using h3⟩
    simp only [PyData.shown, wt]
    exact Nat.le_trans (lst_wt _) (Nat.add_le_add_right h1 3)
  | .tuple xs, h => by
    obtain ⟨h1, h2, h3⟩ := shown_wtAll xs (by simpa only [okD] using h)
    refine ⟨?_, by simpa only [PyData.showable] using h2, by simpa only [PyData.hasDict] using h3⟩
    simp only [PyData.shown, wt]
    exact Nat.le_trans (tup_wt _) (Nat.add_le_add_right h1 3)
  | .dict _, h => by simp only [okD, Bool.false_eq_true] at h
theorem shown_wtAll : ∀ xs : List PyData, okAll xs = true → piled (PyData.shownAll xs) ≤ wtAll xs ∧ PyData.showableAll xs = true ∧ PyData.hasDictAll xs = false
  | [], _ => ⟨Nat.le_refl _, rfl, rfl⟩
  | x :: xs, h => by
    have h0 : (okD x && okAll xs) = true := by simpa only [okAll] using h
    rw [Bool.and_eq_true] at h0
    obtain ⟨a1, a2, a3⟩ := shown_wt x h0.1
    obtain ⟨b1, b2, b3⟩ := shown_wtAll xs h0.2
    refine ⟨?_, by simp only [PyData.showableAll, a2, b2, Bool.and_self], by simp only [PyData.hasDictAll, a3, b3, Bool.or_self]⟩
    simp only [PyData.shownAll, wtAll]
    rw [piled_cons]
    omega
end
/-- the text of data -/
def rRepr (K : PySem.W.Frag) : List V → Hp → VK → Prop := fun xs H Q => ∃ x d, xs = [x] ∧ Dp K H x d ∧ okD d = true ∧ d.depth ≤ 40 ∧ wt d ≤ 1000000 ∧ Q (.str d.shown) H
section
variable {X : Cx}
theorem call_reprD (hg : X.A.guards = some []) (hu : X.A.units + 64 < cLine) : CallR X (.builtin "repr") (rRepr X.K) := by
  intro pins s σ H xs us Q I r h
  obtain ⟨x, d, rfl, hd, h0, h3, hw, q⟩ := h
  obtain ⟨hz, h1, h2⟩ := shown_wt d h0
  have h4 : d.shown.length ≤ sizeLine := Nat.le_trans hz (Nat.le_trans hw (by decide))
  obtain ⟨u, rfl, hx⟩ := vals1 r
  obtain ⟨as, rd⟩ := Dp.reads I d x u hd hx
  cases hd with
  | non =>
    obtain rfl : u = Value.none := hx
    exact PySem.P.repr_of_none ⟨.str _, H, I.tok _, ⟨_, rfl⟩, q⟩
  | bl b =>
    obtain rfl : u = Value.bool b := hx
    exact PySem.P.repr_of_bool ⟨.str _, H, I.tok _, ⟨_, rfl⟩, q⟩
  | int i =>
    obtain ⟨t, rfl⟩ := hx
    exact PySem.P.repr_of_int (of_decide_eq_true h1) ⟨.str _, H, I.tok _, ⟨_, rfl⟩, q⟩
  | str z =>
    obtain ⟨t, rfl⟩ := hx
    exact PySem.P.repr_of_str ⟨.str _, H, I.tok _, ⟨_, rfl⟩, q⟩ h4
  | lst hs ha =>
    obtain rfl : u = Value.ref _ := hx
    refine repr_of_reads' rd h1 (PyData.noDict_hsm h2) hg (by omega) (fun _ _ z => z) (fun h' u tk hk => ?_) h4
    exact ⟨.str _, H, I.kept (t' := tk) hk, ⟨_, rfl⟩, q⟩
  | tup hs ha =>
    obtain rfl : u = Value.ref _ := hx
    refine repr_of_reads' rd h1 (PyData.noDict_hsm h2) hg (by omega) (fun _ _ z => z) (fun h' u tk hk => ?_) h4
    exact ⟨.str _, H, I.kept (t' := tk) hk, ⟨_, rfl⟩, q⟩
end
/-! ### the law's end -/
section
variable {P : Program} {w : World} {K : PySem.W.Frag} {mg mb : Str → Option Value} {k : Nat} {fa a : Addr} {fd : FuncData} {x : Str} {sp : Sp} {s1 : Shared} {vs : List Value} {ns : List Int}
/-- from a heap H in which at most the script is tracked -/
theorem law_from {H : Hp} (KX : K.In s1.heap) (hns : s1.heap.Ns mainGlobals mg) (hb : s1.heap.Ns builtinsNs mb) (hbb : ∀ x : Str, x ≠ "__name__" → mb x = bootBuiltins x) (hlim : s1.heap.NoLimit) (hg : s1.gens = #[])
    (ha : s1.heap.get? a = some { cls := .type "list", data := .seq vs.toArray }) (hr : Room k callerA) (F : ∀ base : Heap, K.In base → base.Ns mainGlobals mg → FnG P w K mg base k fa fd [x] sp)
    (hbind : ∀ (s : Shared) (u : Value), BindsTo s fd ⟨[u], []⟩ [(x, u)]) (hO : Only H) (hok : HOk P w H s1.heap) (hA : ∀ b, H b ≠ none → b = a) (hK : H a ≠ none → K.lookup a = none)
    (hsp : sp [.ref a] H (fun v _ => v = .bl true) fun _ _ _ => False) :
    codeAny (model P w) callerA (.call (.ref fa) ⟨[.ref a], []⟩) (fun r s' => r = .ok (.ret (.bool true)) ∧ OldK s1.heap s'.heap ∧ s'.os = s1.os ∧ AllBare s'.gens) s1 := by
  have untr : ∀ {b : Addr} {o : Obj} {es : Array DictEntry} {ep : Nat}, s1.heap.get? b = some o → o.data = .dict es ep → H b = none := by
    intro b o es ep e d
    cases q : H b with
    | none => rfl
    | some u =>
      obtain rfl : b = a := hA b (by rw [q]; exact Option.some_ne_none u)
      rw [ha] at e
      cases e
      exact absurd (show Data.seq vs.toArray _ = Data.dict es ep from d) (by intro z; cases z)
  have nsH : ∀ {b : Addr} {m : Str → Option Value}, s1.heap.Ns b m → (hidT s1.heap H).Ns b m := by
    rintro b m ⟨o, es, ep, e, d, r⟩
    exact ⟨o, es, ep, hidT_get e (untr e d), d, r⟩
  have inH : K.In (hidT s1.heap H) := by
    intro b o e
    refine hidT_get (KX b o e) ?_
    cases q : H b with
    | none => rfl
    | some u =>
      have hne : H b ≠ none := by rw [q]; exact Option.some_ne_none u
      obtain rfl : b = a := hA b hne
      rw [hK hne] at e
      cases e
  obtain ⟨mc, l1, l2⟩ := hlim
  have md : Mod K mg (hidT s1.heap H) := ⟨inH, nsH hns, ⟨mb, nsH hb, hbb⟩, ⟨mc, nsH l1, l2⟩⟩
  have e0 : Env0 P w K mg (hidT s1.heap H) callerA [] s1 H := by
    refine ⟨rfl, md, fun b o e => of_hidT e, Nat.le_of_eq (hidT_size _ _), trivial, ?_, hok, .of_eq hg⟩
    intro b hb
    cases (show b ∈ ([] : List Addr) from hb)
  have run := (F _ inH (nsH hns)).goes callerA [] s1 H ⟨[.ref a], []⟩ [.ref a] [.ref a] _ _ rfl hr e0 (hbind s1 (.ref a)) (.cons rfl .nil) hsp
  refine codeAny_mono run fun r s' h => ?_
  match r, h with
  | .error e, h => exact (show False from h).elim
  | .ok (.ret u), ⟨v, H', os, bare, un, hok', r', q⟩ =>
    obtain rfl : v = .bl true := q
    obtain rfl : u = Value.bool true := r'
    refine ⟨rfl, OldK.of_keep ?_, os, bare⟩
    intro b o e
    cases q : H b with
    | none => exact un.keep b o e q (fun z => by cases (show b ∈ ([] : List Addr) from z)) (fun z => by cases z)
    | some u =>
      rcases hO b with z | ⟨ob, xs, z⟩
      · rw [q] at z
        cases z
      · have k1 := (hok b _ z).1
        have k2 := (hok' b _ (un.frzs b ob _ z)).1
        rw [e] at k1
        cases k1
        exact k2
theorem law_g (KX : K.In s1.heap) (hns : s1.heap.Ns mainGlobals mg) (hb : s1.heap.Ns builtinsNs mb) (hbb : ∀ x : Str, x ≠ "__name__" → mb x = bootBuiltins x) (hlim : s1.heap.NoLimit) (hg : s1.gens = #[])
    (ha : s1.heap.get? a = some { cls := .type "list", data := .seq vs.toArray }) (hi : IntsAre vs ns) (hl : ns.length ≤ sizeLine) (hr : Room k callerA) (F : ∀ base : Heap, K.In base → base.Ns mainGlobals mg → FnG P w K mg base k fa fd [x] sp)
    (hbind : ∀ (s : Shared) (u : Value), BindsTo s fd ⟨[u], []⟩ [(x, u)]) (hsp : ∀ H : Hp, Only H → SqL K H a (ns.map V.int) → sp [.ref a] H (fun v _ => v = .bl true) fun _ _ _ => False) :
    codeAny (model P w) callerA (.call (.ref fa) ⟨[.ref a], []⟩) (fun r s' => r = .ok (.ret (.bool true)) ∧ OldK s1.heap s'.heap ∧ s'.os = s1.os ∧ AllBare s'.gens) s1 := by
  have rv := vals_ints hi
  have lv := hi.length
  cases hk : K.lookup a with
  | some o =>
    have e := KX a o hk
    rw [ha] at e
    cases e
    refine law_from (H := fun _ => none) KX hns hb hbb hlim hg ha hr F hbind (fun _ => Or.inl rfl) (fun b u z => ?_) (fun b z => absurd rfl z) (fun z => absurd rfl z) (hsp _ (fun _ => Or.inl rfl) (Or.inr ?_))
    · cases (show (none : Option HO) = some u from z)
    · exact ⟨_, vs.toArray, _, hk, rfl, rfl, rfl, by rw [List.size_toArray, lv]; exact hl, by simpa using rv⟩
  | none =>
    let ob : Obj := { cls := .type "list", data := .seq vs.toArray }
    have one : ∀ b, (if b = a then some (HO.frz ob (.lst (ns.map V.int))) else none) ≠ none → b = a := fun b z => by
      by_cases hb : b = a
      · exact hb
      · exact absurd (if_neg hb) z
    have only : Only (fun b => if b = a then some (HO.frz ob (.lst (ns.map V.int))) else none) := fun b => by
      by_cases hb : b = a
      · exact Or.inr ⟨_, _, if_pos hb⟩
      · exact Or.inl (if_neg hb)
    refine law_from (H := fun b => if b = a then some (HO.frz ob (.lst (ns.map V.int))) else none) KX hns hb hbb hlim hg ha hr F hbind only (fun b u z => ?_) one (fun _ => hk) (hsp _ only (Or.inl (Or.inr ⟨ob, if_pos rfl⟩)))
    by_cases hb : b = a
    · obtain rfl := Option.some.inj ((if_pos hb).symm.trans z)
      subst hb
      exact ⟨ha, by rw [List.length_map]; exact hl, vs, _, rv, ha⟩
    · cases (if_neg hb).symm.trans z
end
theorem walk_g {l : PySem.W.OpenLaw} {n k : Nat} {q : Program} {loose : List Str} {XP : (Str → Option Value) → Heap → Prop} {YP : World → Heap → Prop} {d : DefRec} {K : Params → PySem.W.Frag} {sp : PySem.W.Frag → Sp} {x : Str}
    (hn : l.most = some n) (hn2 : n ≤ sizeLine) (hdf : d.params.defaults = []) (hr : Room k callerA) (hY : ∀ (w : World) (h : Heap), YP w h → (K w.params).In h)
    (F : ∀ (w : World) (mg : Str → Option Value) (fa : Addr) (h : Heap), (K w.params).In h → h.Ns mainGlobals mg → mg d.name = some (.ref fa) → ∃ fd : FuncData, (∀ (s : Shared) (u : Value), BindsTo s fd ⟨[u], []⟩ [(x, u)]) ∧
        ∀ base : Heap, (K w.params).In base → base.Ns mainGlobals mg → FnG l.prog w (K w.params) mg base k fa fd [x] (sp (K w.params)))
    (hsp : ∀ (K : PySem.W.Frag) (H : Hp) (a : Addr) (ns : List Int), ns.length ≤ n → SqL K H a (ns.map V.int) → sp K [.ref a] H (fun v _ => v = .bl true) fun _ _ _ => False) :
    PySem.W.WalkO q loose XP YP l.row.toRowW d [] (fun f vs => PySem.call f vs) := by
  refine Att.attach_call hn hdf fun w s0 s1 mg mb fa o pm cd doc a vs ns G Y ho hd hcd hmg hobj hints hlen hg => ?_
  obtain ⟨fd, hb, hF⟩ := F w mg fa _ (hY w _ Y) G.T.g hmg
  exact law_g (hY w _ Y) G.T.g G.T.b G.T.builtins G.T.nolimit hg hobj hints (Nat.le_trans hlen hn2) hr hF hb fun H _ hS => hsp (K w.params) H a ns hlen hS
end Gd
set_option Elab.async false
set_option linter.all false
set_option maxRecDepth 100000
/-! Common words: sizes of ints, heaps that grow, defs of the text by their names. -/
namespace Gd
open PySem PySem.Spec PyProof.Rows L2
/-! ### sizes -/
def B (n : Nat) (x : Int) : Prop := x.natAbs < 2 ^ n
theorem B.up {m n : Nat} {x : Int} (h : B m x) (k : m ≤ n) : B n x := Nat.lt_of_lt_of_le h (Nat.pow_le_pow_right (by decide) k)
theorem B.add {m n : Nat} {x y : Int} (hx : B m x) (hy : B n y) : B (max m n + 1) (x + y) := by
  have h1 : x.natAbs < 2 ^ max m n := hx.up (Nat.le_max_left m n)
  have h2 : y.natAbs < 2 ^ max m n := hy.up (Nat.le_max_right m n)
  unfold B
  rw [Nat.pow_succ]
  omega
theorem B.neg {n : Nat} {x : Int} (hx : B n x) : B n (-x) := by
  unfold B at *
  omega
theorem B.sub {m n : Nat} {x y : Int} (hx : B m x) (hy : B n y) : B (max m n + 1) (x - y) := by
  rw [Int.sub_eq_add_neg]
  exact hx.add hy.neg
theorem B.mul {m n : Nat} {x y : Int} (hx : B m x) (hy : B n y) : B (m + n) (x * y) := wide_lt hx hy
theorem B.pow {m : Nat} {x : Int} (hx : B m x) : ∀ k : Nat, B (m * k + 1) (x ^ k)
  | 0 => by
    rw [Int.pow_zero]
    exact Nat.one_lt_two_pow (by omega)
  | k + 1 => by
    rw [Int.pow_succ]
    exact ((B.pow hx k).mul hx).up (by rw [Nat.mul_succ]; omega)
theorem B.lit {n : Nat} {x : Int} (h : x.natAbs < 2 ^ n) : B n x := h
theorem B.mulW {m n : Nat} {x y : Int} (hx : B m x) (hy : B n y) (h : m + n ≤ 900000) : CMulW x y :=
  wide_mul (hx.up (Nat.le_add_right m 1)) (hy.up (Nat.le_add_right n 1)) (by omega) (by omega) (by omega)
theorem B.mulL {n : Nat} {x y : Int} (hx : B n x) (h : n ≤ 64) : CMul x y := by
  have h1 := hx.up h
  unfold B at h1
  exact Or.inl ⟨by omega, by omega⟩
theorem B.mulR {n : Nat} {x y : Int} (hy : B n y) (h : n ≤ 64) : CMul x y := by
  have h1 := hy.up h
  unfold B at h1
  exact Or.inr ⟨by omega, by omega⟩
theorem B.log {n : Nat} {x : Int} (hx : B n x) (h : n ≤ 1900) : x.natAbs.log2 < 1920 := by
  have h1 : x.natAbs < 2 ^ 1901 := hx.up (by omega)
  exact PySem.Flt.log2_lt_of (by decide) (Nat.lt_of_lt_of_le h1 (Nat.pow_le_pow_right (by decide) (by decide)))
theorem B.between {n : Nat} {x : Int} (m : Int) (h0 : -m ≤ x) (h1 : x ≤ m) (h : m.natAbs < 2 ^ n) : B n x := by
  unfold B
  omega
theorem small {n : Nat} (h : n ≤ 1000) : n ≤ sizeLine := Nat.le_trans h (by decide)
/-! ### heaps -/
theorem Same.new {H : Hp} {p : Addr} {o : HO} (h : H p = none) : Same H (upd H p o) := fun b x e => by
  rw [upd_ne (ne_of_none e h)]
  exact e
theorem Same.put {H H1 : Hp} {p : Addr} {o : HO} (s : Same H H1) (h : H p = none) : Same H (upd H1 p o) := fun b x e => by
  rw [upd_ne (ne_of_none e h)]
  exact s b x e
theorem Same.rd {H H' : Hp} {a : Addr} {u : HO} (e : Same H H') (h : Rd H a u) : Rd H' a u := by
  rcases h with h | ⟨o, h⟩
  · exact Or.inl (e _ _ h)
  · exact Or.inr ⟨o, e _ _ h⟩
theorem Same.tup {K : PySem.W.Frag} {H H' : Hp} {a : Addr} {xs : List V} (e : Same H H') (h : SqT K H a xs) : SqT K H' a xs := by
  rcases h with h | h
  · exact Or.inl (Same.rd e h)
  · exact Or.inr h
theorem tup_of {K : PySem.W.Frag} {H : Hp} {a : Addr} {xs : List V} (h : H a = some (.tup xs)) : SqT K H a xs := Or.inl (Or.inl h)
theorem lst_of {K : PySem.W.Frag} {H : Hp} {a : Addr} {xs : List V} (h : H a = some (.lst xs)) : SqL K H a xs := Or.inl (Or.inl h)
/-- all but what stands at m is as it was -/
def But (m : Addr) (H H' : Hp) : Prop := ∀ b o, H b = some o → b ≠ m → H' b = some o
theorem But.refl (m : Addr) (H : Hp) : But m H H := fun _ _ e _ => e
theorem But.trans {m : Addr} {H H1 H2 : Hp} (a : But m H H1) (b : But m H1 H2) : But m H H2 := fun c o e n => b c o (a c o e n) n
theorem But.of {m : Addr} {H H' : Hp} (a : Same H H') : But m H H' := fun c o e _ => a c o e
theorem But.upd {m : Addr} {H : Hp} {o : HO} : But m H (upd H m o) := fun c x e n => by
  rw [upd_ne n]
  exact e
/-- the same where m was not known -/
theorem But.same {m : Addr} {H H1 H2 : Hp} (s : Same H H1) (b : But m H1 H2) (h : H m = none) : Same H H2 := fun c o e => b c o (s c o e) (ne_of_none e h)
/-- the slots said anew -/
theorem sig {nx : L2.St → Hp → Prop} {σ : L2.St} {H : Hp} (σ' : L2.St) (e : σ = σ') (h : nx σ' H) : nx σ H := e ▸ h
theorem sigN {nx : L2.St → Hp → Prop} {i : Nat} {v : V} {σ : L2.St} {H : Hp} (σ' : L2.St) (e : σ.set i (some v) = σ') (h : nx σ' H) : gName i v σ H nx := by
  subst e
  exact h
/-- a number of the module -/
theorem pe_kon {X : Cx} {x : Str} {pos : Pos} {v : V} (hg : Gl X x) (h : ∃ u, X.mg x = some u ∧ RelV v u) (hd : (x == ("__debug__" : Str)) = false := by decide) : PE X (.Name x pos) (tC v) := by
  obtain ⟨u, hm, r⟩ := h
  exact pe_glob hg hm r hd
/-- int(n) of a number -/
theorem call_intI {X : Cx} : CallR X (.type "int") (fun xs H Q => ∃ i, xs = [.int i] ∧ Q (.int i) H) := fun pins s σ H xs us Q I r h => call_int1 pins s σ H xs us Q I r (Or.inl h)
/-! ### the state of the draws: four entries -/
def mk4 (L s : Int) (c : Addr) (n : Int) : List (Key × V) := [(Sum.inr "left", .int L), (Sum.inr "seed", .int s), (Sum.inr "cells", .ref c), (Sum.inr "spot", .int n)]
theorem kn12 : ¬ (("left" : Str) = "seed") := by decide +kernel
theorem kn13 : ¬ (("left" : Str) = "cells") := by decide +kernel
theorem kn14 : ¬ (("left" : Str) = "spot") := by decide +kernel
theorem kn23 : ¬ (("seed" : Str) = "cells") := by decide +kernel
theorem kn24 : ¬ (("seed" : Str) = "spot") := by decide +kernel
theorem kn34 : ¬ (("cells" : Str) = "spot") := by decide +kernel
theorem kn21 : ¬ (("seed" : Str) = "left") := by decide +kernel
theorem kn31 : ¬ (("cells" : Str) = "left") := by decide +kernel
theorem kn41 : ¬ (("spot" : Str) = "left") := by decide +kernel
theorem kn42 : ¬ (("spot" : Str) = "seed") := by decide +kernel
theorem kn43 : ¬ (("spot" : Str) = "cells") := by decide +kernel
theorem kn32 : ¬ (("cells" : Str) = "seed") := by decide +kernel
section
variable {L s n : Int} {c : Addr}
theorem m4_left : valV (mk4 L s c n) (Sum.inr "left") = some (.int L) := by simp [valV, mk4, List.find?_cons]
theorem m4_seed : valV (mk4 L s c n) (Sum.inr "seed") = some (.int s) := by simp [valV, mk4, List.find?_cons, kn12]
theorem m4_cells : valV (mk4 L s c n) (Sum.inr "cells") = some (.ref c) := by simp [valV, mk4, List.find?_cons, kn13, kn23]
theorem m4_spot : valV (mk4 L s c n) (Sum.inr "spot") = some (.int n) := by simp [valV, mk4, List.find?_cons, kn14, kn24, kn34]
theorem m4_putL (y : Int) : putK (mk4 L s c n) (Sum.inr "left") (.int y) = mk4 y s c n := by simp [putK, mk4, kn21, kn31, kn41]
theorem m4_merge : mergeK [] (mk4 L s c n) = mk4 L s c n := by simp [mergeK, putK, mk4, List.foldl, kn12, kn13, kn14, kn23, kn24, kn34]
theorem m4_putS (y : Int) : putK (mk4 L s c n) (Sum.inr "spot") (.int y) = mk4 L s c y := by simp [putK, mk4, kn14, kn24, kn34]
end
/-- the state stands at m, with at most n draws out of the cells behind it -/
def MAt (H : Hp) (m c : Addr) (n : Nat) : Prop := ∃ (L s : Int) (cs : List Int) (k : Nat), H m = some (.dK (mk4 L s c (k : Int))) ∧ k ≤ n ∧ H c = some (.lst (cs.map V.int)) ∧ 0 < cs.length
theorem MAt.up {H : Hp} {m cl : Addr} {n n' : Nat} (h : MAt H m cl n) (k : n ≤ n') : MAt H m cl n' := by
  obtain ⟨L, s, cs, j, h1, h2, h3, h4⟩ := h
  exact ⟨L, s, cs, j, h1, Nat.le_trans h2 k, h3, h4⟩
theorem MAt.same {H H' : Hp} {m cl : Addr} {n : Nat} (h : MAt H m cl n) (e : Same H H') : MAt H' m cl n := by
  obtain ⟨L, s, cs, j, h1, h2, h3, h4⟩ := h
  exact ⟨L, s, cs, j, e _ _ h1, h2, e _ _ h3, h4⟩
theorem MAt.some {H : Hp} {m cl : Addr} {n : Nat} (h : MAt H m cl n) : ∃ kvs, H m = some (.dK kvs) := by
  obtain ⟨L, s, cs, j, h1, _⟩ := h
  exact ⟨_, h1⟩
theorem MAt.ne {H : Hp} {m cl p : Addr} {n : Nat} (h : MAt H m cl n) (e : H p = none) : m ≠ p ∧ cl ≠ p := by
  obtain ⟨L, s, cs, j, h1, h2, h3, h4⟩ := h
  exact ⟨ne_of_none h1 e, ne_of_none h3 e⟩
theorem MAt.put {H : Hp} {m cl p : Addr} {n : Nat} {o : HO} (h : MAt H m cl n) (e : m ≠ p ∧ cl ≠ p) : MAt (upd H p o) m cl n := by
  obtain ⟨L, s, cs, j, h1, h2, h3, h4⟩ := h
  refine ⟨L, s, cs, j, ?_, h2, ?_, h4⟩
  · rw [upd_ne e.1]
    exact h1
  · rw [upd_ne e.2]
    exact h3
/-- what the draws leave: fresh stays fresh -/
theorem But.free {m p cl : Addr} {H H' : Hp} {n : Nat} (b : But m H H') (h : MAt H' m cl n) (e : H' p = none) : H p = none := by
  obtain ⟨kvs, hm⟩ := h.some
  cases q : H p with
  | none => rfl
  | some o =>
    by_cases hp : p = m
    · subst hp
      rw [hm] at e
      cases e
    · rw [b p o q hp] at e
      cases e
theorem But.tup {m p cl : Addr} {H H' : Hp} {n : Nat} {xs : List V} (b : But m H H') (h : MAt H m cl n) (e : H p = some (.tup xs)) : H' p = some (.tup xs) := by
  obtain ⟨kvs, hm⟩ := h.some
  exact b p _ e (ne_of e hm (by intro z; cases z))
theorem But.lst {m p cl : Addr} {H H' : Hp} {n : Nat} {xs : List V} (b : But m H H') (h : MAt H m cl n) (e : H p = some (.lst xs)) : H' p = some (.lst xs) := by
  obtain ⟨kvs, hm⟩ := h.some
  exact b p _ e (ne_of e hm (by intro z; cases z))
theorem But.seqL {K : PySem.W.Frag} {m p cl : Addr} {H H' : Hp} {n : Nat} {xs : List V} (b : But m H H') (h : MAt H m cl n) (e : SqL K H p xs) : SqL K H' p xs := by
  obtain ⟨kvs, hm⟩ := h.some
  rcases e with (e | ⟨o, e⟩) | e
  · exact Or.inl (Or.inl (b p _ e (ne_of e hm (by intro z; cases z))))
  · exact Or.inl (Or.inr ⟨o, b p _ e (ne_of e hm (by intro z; cases z))⟩)
  · exact Or.inr e
theorem But.seqT {K : PySem.W.Frag} {m p cl : Addr} {H H' : Hp} {n : Nat} {xs : List V} (b : But m H H') (h : MAt H m cl n) (e : SqT K H p xs) : SqT K H' p xs := by
  obtain ⟨kvs, hm⟩ := h.some
  rcases e with (e | ⟨o, e⟩) | e
  · exact Or.inl (Or.inl (b p _ e (ne_of e hm (by intro z; cases z))))
  · exact Or.inl (Or.inr ⟨o, b p _ e (ne_of e hm (by intro z; cases z))⟩)
  · exact Or.inr e
/-! ### tuples -/
theorem catA_any {K : PySem.W.Frag} {H : Hp} {Q : VK} {a b : Addr} {xs ys : List V} (ha : SqT K H a xs) (hb : SqT K H b ys) (hl : xs.length + ys.length ≤ 1000) (k : ∀ p H', Same H H' → SqT K H' p (xs ++ ys) → Q (.ref p) H') : rCatA K (.ref a) (.ref b) H Q := by
  refine ⟨a, b, xs, ys, rfl, rfl, ha, hb, small hl, fun e => ?_, fun _ e => ?_, fun _ _ p hp => k p _ (Same.new hp) (tup_of upd_same)⟩
  · subst e
    exact k b H (Same.refl H) hb
  · subst e
    exact k a H (Same.refl H) (by rw [List.append_nil]; exact ha)
theorem slA_any {K : PySem.W.Frag} {H : Hp} {Q : VK} {a : Addr} {xs : List V} {lo hi : Option Int} (ha : SqT K H a xs) (k : ∀ p H', Same H H' → SqT K H' p (cutV xs lo hi) → Q (.ref p) H') : rSlA K (.ref a) lo hi H Q := by
  refine ⟨a, xs, rfl, ha, fun e => ?_, fun _ p hp => k p _ (Same.new hp) (tup_of upd_same)⟩
  refine k a H (Same.refl H) ?_
  have e2 : cutV xs lo hi = xs := by
    unfold cutV
    rw [e.1, e.2, List.drop_zero, Nat.sub_zero, List.take_length]
  rw [e2]
  exact ha
/-! ### defs by their names -/
structure Df (K : PySem.W.Frag) (mg : Str → Option Value) (x : Str) (st : Stmt) (ps : List Str) : Prop where
  ex : ∃ (f : Addr) (fd : FuncData), Fun K x x st f fd ∧ mg x = some (.ref f) ∧ Binds K fd ps []
section
variable {P : Program} {w : World} {K : PySem.W.Frag} {mg : Str → Option Value} {base : Heap} {x : Str} {st : Stmt} {N ps : List Str} {k : Nat} {sp : Sp}
theorem Kl.by_body (D : Df K mg x st ps) (S : FnScope N ps (defScope st)) (len : ∀ vs H Q E, sp vs H Q E → vs.length = ps.length)
    (hb : ∀ (f : Addr) (cdv : Value) (A : Around) (outer : List Env) (s : Shared) (H : Hp) (vs : List V) (Q : VK) (E : XK), Room k (A.deeper (envOfC x (defScope st) s.heap.objs.size f cdv)) → sp vs H Q E →
      ∃ t, PSs (cxOf CX0 P w K mg base N x (defScope st) f cdv A outer s H E).nox (defBody st) t ∧ t { nx := fun _ H' => Q .non H', rt := Q } (start N vs) H) : Kl P w K mg base (k + 1) x sp := by
  obtain ⟨f, fd, F, hm, b⟩ := D.ex
  exact ⟨f, fd, ps, F.ok S len (hb f), hm, F.kp, b⟩
theorem Kg.by_body (D : Df K mg x st ps) (S : FnScope N ps (defScope st)) (len : ∀ vs H Q E, sp vs H Q E → vs.length = ps.length)
    (hb : ∀ (f : Addr) (cdv : Value) (A : Around) (outer : List Env) (s : Shared) (H : Hp) (vs : List V) (Q : VK) (E : XK), A.guards = some [] → Room k (A.deeper (envOfC x (defScope st) s.heap.objs.size f cdv)) → sp vs H Q E →
      ∃ t, PSs (cxOf CX0 P w K mg base N x (defScope st) f cdv A outer s H E).nox (defBody st) t ∧ t { nx := fun _ H' => Q .non H', rt := Q } (start N vs) H) : Kg P w K mg base (k + 1) x sp := by
  obtain ⟨f, fd, F, hm, b⟩ := D.ex
  exact ⟨f, fd, ps, FnG.by_body F S len (hb f), hm, F.kp, b⟩
theorem df_mk {h : Heap} {f : Addr} {oc : Value} {od an : Option Addr} {osl : Array (Option Value)} {kV doc pm cdv ct : Value} (X : K.In h) (G : h.Ns mainGlobals mg) (a : PySem.W.nsIn K mainGlobals x = some (some (.ref f)))
    (l : K.lookup f = some ⟨oc, od, .func (PySem.W.fnOf x x (defArgs st) (defBody st) (defScope st) .none kV doc pm an cdv ct), osl⟩) (c : PySem.W.codeIn K cdv x = true) (kp : PySem.W.keepIn K (.ref f) = true)
    (hb : ∀ (kV doc pm : Value) (an : Option Addr) (cdv ct : Value) (us : List Value), us.length = ps.length → bindArgs (PySem.W.fnOf x x (defArgs st) (defBody st) (defScope st) .none kV doc pm an cdv ct) ⟨us, []⟩ = pure (ps.zip us)) : Df K mg x st ps :=
  ⟨f, _, fun_mk l c kp, PySem.W.mg_of X G a, (fun_mk l c kp).binds hb⟩
theorem law_fd {h : Heap} {fa f : Addr} {j : Nat} {oc : Value} {od an : Option Addr} {osl : Array (Option Value)} {kV doc pm cdv ct : Value} (X : K.In h) (G : h.Ns mainGlobals mg) (hfa : mg "law" = some (.ref fa)) (a : PySem.W.nsIn K mainGlobals "law" = some (some (.ref f)))
    (l : K.lookup f = some ⟨oc, od, .func (PySem.W.fnOf "law" "law" (defArgs st) (defBody st) (defScope st) .none kV doc pm an cdv ct), osl⟩) (c : PySem.W.codeIn K cdv "law" = true) (kp : PySem.W.keepIn K (.ref f) = true)
    (hb : ∀ (kV doc pm : Value) (an : Option Addr) (cdv ct : Value) (us : List Value), us.length = 1 → bindArgs (PySem.W.fnOf "law" "law" (defArgs st) (defBody st) (defScope st) .none kV doc pm an cdv ct) ⟨us, []⟩ = pure ((["script"] : List Str).zip us))
    (go : ∀ fd, Fun K "law" "law" st fa fd → ∀ base : Heap, FnG P w K mg base j fa fd ["script"] sp) :
    ∃ fd : FuncData, (∀ (s : Shared) (u : Value), BindsTo s fd ⟨[u], []⟩ [("script", u)]) ∧ ∀ base : Heap, K.In base → base.Ns mainGlobals mg → FnG P w K mg base j fa fd ["script"] sp := by
  have e := hfa.symm.trans (PySem.W.mg_of X G a)
  cases e
  exact ⟨_, fun s u => .of_eq (hb kV doc pm an cdv ct [u] rfl), fun base _ _ => go _ (fun_mk l c kp) base⟩
end
end Gd
set_option linter.all false
/-! fractions: plain Lean -/
namespace QM
/-- n / d in lowest terms -/
def sg (n d : Int) : Int := if d < 0 then -((Nat.gcd n.natAbs d.natAbs : Nat) : Int) else ((Nat.gcd n.natAbs d.natAbs : Nat) : Int)
theorem sg_ne {n d : Int} (h : d ≠ 0) : sg n d ≠ 0 := by
  have hp : 0 < Nat.gcd n.natAbs d.natAbs := Nat.gcd_pos_of_pos_right _ (by omega)
  unfold sg
  split <;> omega
theorem fdiv_neg' (a b : Int) : (-a).fdiv (-b) = a.fdiv b := by
  exact Int.neg_fdiv_neg a b
theorem fr_num {n d : Int} (h : d ≠ 0) : n.fdiv (sg n d) = (Rat.divInt n d).num := by
  rw [Rat.num_divInt]
  unfold sg
  have g0 : ((Int.gcd d n : Nat) : Int) = ((Nat.gcd n.natAbs d.natAbs : Nat) : Int) := by rw [Int.gcd_comm]; rfl
  split
  · rename_i e
    rw [Int.sign_eq_neg_one_of_neg e, g0, Int.neg_mul, Int.one_mul]
    have e1 : n.fdiv (-((Nat.gcd n.natAbs d.natAbs : Nat) : Int)) = (-n).fdiv ((Nat.gcd n.natAbs d.natAbs : Nat) : Int) := by
      rw [← fdiv_neg' n, Int.neg_neg]
    rw [e1, Int.fdiv_eq_ediv_of_nonneg _ (by omega)]
  · rename_i e
    rw [Int.sign_eq_one_of_pos (by omega), g0, Int.one_mul, Int.fdiv_eq_ediv_of_nonneg _ (by omega)]
theorem fr_den {n d : Int} (h : d ≠ 0) : d.fdiv (sg n d) = ((Rat.divInt n d).den : Int) := by
  rw [Rat.den_divInt, if_neg h]
  have g0 : Int.gcd d n = Nat.gcd n.natAbs d.natAbs := by rw [Int.gcd_comm]; rfl
  rw [g0]
  unfold sg
  split
  · rename_i e
    have e1 : d.fdiv (-((Nat.gcd n.natAbs d.natAbs : Nat) : Int)) = (-d).fdiv ((Nat.gcd n.natAbs d.natAbs : Nat) : Int) := by
      rw [← fdiv_neg' d, Int.neg_neg]
    rw [e1, Int.fdiv_eq_ediv_of_nonneg _ (by omega), Int.natCast_ediv]
    congr 1
    omega
  · rename_i e
    rw [Int.fdiv_eq_ediv_of_nonneg _ (by omega), Int.natCast_ediv]
    congr 1
    omega
theorem den_ne (a : Rat) : (a.den : Int) ≠ 0 := by
  have := a.den_nz
  omega
theorem denR (a : Rat) : ((a.den : Int) : Rat) ≠ 0 := by
  intro h
  exact den_ne a (by exact_mod_cast h)
theorem as_div (a : Rat) : a = (a.num : Rat) / ((a.den : Int) : Rat) := by
  rw [← Rat.divInt_eq_div, Rat.num_divInt_den]
theorem fr_add (a b : Rat) : Rat.divInt (a.num * b.den + b.num * a.den) (a.den * b.den) = a + b := by
  have ha := denR a
  have hb := denR b
  have ea := as_div a
  have eb := as_div b
  rw [Rat.divInt_eq_div, Rat.intCast_add, Rat.intCast_mul, Rat.intCast_mul, Rat.intCast_mul]
  grind
theorem fr_sub (a b : Rat) : Rat.divInt (a.num * b.den - b.num * a.den) (a.den * b.den) = a - b := by
  have ha := denR a
  have hb := denR b
  have ea := as_div a
  have eb := as_div b
  rw [Rat.divInt_eq_div, Rat.intCast_sub, Rat.intCast_mul, Rat.intCast_mul, Rat.intCast_mul]
  grind
theorem fr_mul (a b : Rat) : Rat.divInt (a.num * b.num) (a.den * b.den) = a * b := by
  have ha := denR a
  have hb := denR b
  have ea := as_div a
  have eb := as_div b
  rw [Rat.divInt_eq_div, Rat.intCast_mul, Rat.intCast_mul]
  grind
theorem num_ne {a : Rat} (h : a ≠ 0) : a.num ≠ 0 := fun e => h (Rat.num_eq_zero.mp e)
theorem fr_div (a b : Rat) (h : b ≠ 0) : Rat.divInt (a.num * b.den) (a.den * b.num) = a / b := by
  have ha := denR a
  have hb := denR b
  have ea := as_div a
  have eb := as_div b
  have hn : (b.num : Rat) ≠ 0 := fun e => num_ne h (by exact_mod_cast e)
  rw [Rat.divInt_eq_div, Rat.intCast_mul, Rat.intCast_mul]
  grind
theorem mul_ne {a b : Int} (h : a ≠ 0) (k : b ≠ 0) : a * b ≠ 0 := Int.mul_ne_zero h k
/-! sizes -/
def RB (n : Nat) (q : Rat) : Prop := q.num.natAbs < 2 ^ n ∧ (q.den : Int).natAbs < 2 ^ n
theorem RB.up {m n : Nat} {q : Rat} (h : RB m q) (k : m ≤ n) : RB n q := ⟨Nat.lt_of_lt_of_le h.1 (Nat.pow_le_pow_right (by decide) k), Nat.lt_of_lt_of_le h.2 (Nat.pow_le_pow_right (by decide) k)⟩
theorem dv_le {x g : Int} (h : g ≠ 0) (d : g ∣ x) : (x.fdiv g).natAbs ≤ x.natAbs := by
  obtain ⟨k, rfl⟩ := d
  rw [Int.mul_fdiv_cancel_left k h, Int.natAbs_mul]
  have h1 : 1 ≤ g.natAbs := by omega
  have h2 : 1 * k.natAbs ≤ g.natAbs * k.natAbs := Nat.mul_le_mul_right _ h1
  omega
theorem sg_dvd (n d : Int) : sg n d ∣ n := by
  have h : ((Nat.gcd n.natAbs d.natAbs : Nat) : Int) ∣ n := Int.ofNat_dvd_left.mpr (Nat.gcd_dvd_left _ _)
  unfold sg
  split
  · exact Int.neg_dvd.mpr h
  · exact h
theorem sg_dvd2 (n d : Int) : sg n d ∣ d := by
  have h : ((Nat.gcd n.natAbs d.natAbs : Nat) : Int) ∣ d := Int.ofNat_dvd_left.mpr (Nat.gcd_dvd_right _ _)
  unfold sg
  split
  · exact Int.neg_dvd.mpr h
  · exact h
theorem RB.of {m : Nat} {n d : Int} (h : d ≠ 0) (hn : n.natAbs < 2 ^ m) (hd : d.natAbs < 2 ^ m) : RB m (Rat.divInt n d) := by
  unfold RB
  rw [← fr_num h, ← fr_den (n := n) h]
  exact ⟨Nat.lt_of_le_of_lt (dv_le (sg_ne h) (sg_dvd n d)) hn, Nat.lt_of_le_of_lt (dv_le (sg_ne h) (sg_dvd2 n d)) hd⟩
theorem pmul {m n a b : Nat} (ha : a < 2 ^ m) (hb : b < 2 ^ n) : a * b < 2 ^ (m + n) := by
  rw [Nat.pow_add]
  rcases Nat.eq_zero_or_pos b with h | h
  · subst h
    rw [Nat.mul_zero]
    exact Nat.mul_pos (Nat.two_pow_pos m) (Nat.two_pow_pos n)
  · exact Nat.mul_lt_mul_of_lt_of_le ha (Nat.le_of_lt hb) (Nat.two_pow_pos n)
theorem RB.add {m n : Nat} {a b : Rat} (ha : RB m a) (hb : RB n b) : RB (m + n + 1) (a + b) := by
  rw [← fr_add]
  have h1 := pmul ha.1 hb.2
  have h2 := pmul ha.2 hb.1
  have h3 := pmul ha.2 hb.2
  refine RB.of (mul_ne (den_ne a) (den_ne b)) ?_ ?_
  · rw [Nat.pow_succ]
    have h4 : (a.num * ↑b.den + b.num * ↑a.den).natAbs ≤ (a.num * ↑b.den).natAbs + (b.num * ↑a.den).natAbs := Int.natAbs_add_le _ _
    rw [Int.natAbs_mul, Int.natAbs_mul, Nat.mul_comm b.num.natAbs] at h4
    omega
  · rw [Nat.pow_succ, Int.natAbs_mul]
    omega
theorem RB.neg {m : Nat} {a : Rat} (ha : RB m a) : RB m (-a) := by
  unfold RB at *
  rw [Rat.neg_num, Rat.neg_den, Int.natAbs_neg]
  exact ha
theorem RB.sub {m n : Nat} {a b : Rat} (ha : RB m a) (hb : RB n b) : RB (m + n + 1) (a - b) := by
  rw [Rat.sub_eq_add_neg]
  exact ha.add hb.neg
theorem RB.mul {m n : Nat} {a b : Rat} (ha : RB m a) (hb : RB n b) : RB (m + n) (a * b) := by
  rw [← fr_mul]
  refine RB.of (mul_ne (den_ne a) (den_ne b)) ?_ ?_
  · rw [Int.natAbs_mul]
    exact pmul ha.1 hb.1
  · rw [Int.natAbs_mul]
    exact pmul ha.2 hb.2
theorem RB.div {m n : Nat} {a b : Rat} (h : b ≠ 0) (ha : RB m a) (hb : RB n b) : RB (m + n) (a / b) := by
  rw [← fr_div a b h]
  refine RB.of (mul_ne (den_ne a) (num_ne h)) ?_ ?_
  · rw [Int.natAbs_mul]
    exact pmul ha.1 hb.2
  · rw [Int.natAbs_mul]
    exact pmul ha.2 hb.1
theorem RB.int {m : Nat} {n : Int} (h : n.natAbs < 2 ^ m) (k : 1 ≤ m) : RB m (n : Rat) := by
  unfold RB
  rw [Rat.num_intCast, Rat.den_intCast]
  exact ⟨h, Nat.lt_of_lt_of_le (by decide : 1 < 2 ^ 1) (Nat.pow_le_pow_right (by decide) k)⟩
theorem RB.pow {m : Nat} {a : Rat} (ha : RB m a) : ∀ k : Nat, RB (m * k + 1) (a ^ k)
  | 0 => by
    rw [Rat.pow_zero]
    exact RB.int (n := 1) (by rw [Nat.mul_zero]; decide) (by omega)
  | k + 1 => by
    rw [Rat.pow_succ]
    exact (RB.mul (RB.pow ha k) ha).up (by rw [Nat.mul_succ]; omega)
/-! powers -/
theorem npow (a : Rat) (k : Nat) : (a ^ k).num = a.num ^ k := Rat.num_pow a k
theorem dpow (a : Rat) (k : Nat) : (a ^ k).den = a.den ^ k := Rat.den_pow a k
theorem le_npow (a : Nat) {k : Nat} (h : 1 ≤ k) : a ≤ a ^ k := by
  rcases Nat.eq_zero_or_pos a with e | e
  · omega
  · calc a = a ^ 1 := (Nat.pow_one a).symm
      _ ≤ a ^ k := Nat.pow_le_pow_right e h
theorem RB.root {m k : Nat} {a : Rat} (h : 1 ≤ k) (ha : RB m (a ^ k)) : RB m a := by
  unfold RB at *
  rw [npow, dpow, Int.natAbs_pow] at ha
  refine ⟨Nat.lt_of_le_of_lt (le_npow _ h) ha.1, ?_⟩
  have e : ((a.den ^ k : Nat) : Int).natAbs = a.den ^ k := Int.natAbs_natCast _
  rw [e] at ha
  rw [Int.natAbs_natCast]
  exact Nat.lt_of_le_of_lt (le_npow _ h) ha.2
theorem num_pos {a : Rat} (h : 0 < a) : 0 < a.num := by
  have h1 : 0 ≤ a.num := Rat.num_nonneg.mpr (Rat.le_of_lt h)
  have h2 : a.num ≠ 0 := num_ne (fun e => by rw [e] at h; exact absurd h (by decide))
  omega
end QM
set_option Elab.async false
set_option linter.all false
set_option maxRecDepth 100000
/-! fractions as pairs of ints; promises of the sums -/
namespace Gd
open PySem PySem.Spec PyProof.Rows L2 QM
/-- // by any divisor but 0, below 2 ^ 9000 -/
def CDivAny (_ j : Int) : Prop := j ≠ 0 ∧ j.natAbs.log2 < 9000
theorem op_fdivAny {X : Cx} : OpR X (binaryOp .FloorDiv) (rI CDivAny fun i j => .int (i.fdiv j)) := opI fun _ _ _ _ _ _ _ hc q => floordiv_int hc.1 q (.inl (PyProof.noPylong_of_log2 hc.2))
theorem B.log9 {n : Nat} {x : Int} (hx : B n x) (h : n ≤ 8900) : x.natAbs.log2 < 9000 := by
  have h1 : x.natAbs < 2 ^ 8901 := hx.up (by omega)
  exact PySem.Flt.log2_lt_of (by decide) (Nat.lt_of_lt_of_le h1 (Nat.pow_le_pow_right (by decide) (by decide)))
theorem div_any {m : Nat} {i j : Int} (h : j ≠ 0) (hb : B m j) (hm : m ≤ 8900) : CDivAny i j := ⟨h, hb.log9 hm⟩
theorem gcd_B {m : Nat} {n d : Int} (h : d ≠ 0) (hb : B m d) : B m ((Nat.gcd n.natAbs d.natAbs : Nat) : Int) := by
  unfold B at *
  have h1 : Nat.gcd n.natAbs d.natAbs ≤ d.natAbs := Nat.gcd_le_right _ (by omega)
  omega
theorem sg_B {m : Nat} {n d : Int} (h : d ≠ 0) (hb : B m d) : B m (sg n d) := by
  unfold sg
  split
  · exact (gcd_B h hb).neg
  · exact gcd_B h hb
/-- a fraction's pair -/
def fq (q : Rat) : List V := [.int q.num, .int (q.den : Int)]
theorem fq_div {n d : Int} (h : d ≠ 0) : [V.int (n.fdiv (sg n d)), V.int (d.fdiv (sg n d))] = fq (Rat.divInt n d) := by
  unfold fq
  rw [fr_num h, fr_den h]
theorem fq_int (n : Int) : fq (n : Rat) = [.int n, .int 1] := by
  unfold fq
  rw [Rat.num_intCast, Rat.den_intCast]
  rfl
theorem fq_inj {a b : Rat} (h : fq a = fq b) : a = b := by
  unfold fq at h
  simp only [List.cons.injEq, V.int.injEq, and_true] at h
  exact Rat.ext h.1 (by omega)
def dq (q : Rat) : PyData := .tuple [.int q.num, .int (q.den : Int)]
theorem dp_q {K : PySem.W.Frag} {H : Hp} {p : Addr} {q : Rat} (h : SqT K H p (fq q)) : Dp K H (.ref p) (dq q) := .tup h (.cons (.int _) (.cons (.int _) .nil))
theorem dq_inj {a b : Rat} : dq a = dq b ↔ a = b := by
  constructor
  · intro h
    unfold dq at h
    simp only [PyData.tuple.injEq, List.cons.injEq, PyData.int.injEq, and_true] at h
    exact Rat.ext h.1 (by omega)
  · rintro rfl
    rfl
theorem _root_.QM.RB.n {m : Nat} {q : Rat} (h : RB m q) : B m q.num := h.1
theorem _root_.QM.RB.d {m : Nat} {q : Rat} (h : RB m q) : B m (q.den : Int) := h.2
theorem okq {m : Nat} {q : Rat} (h : RB m q) (k : m ≤ 1900) : okD (dq q) = true := by
  have h1 := B.log (RB.n h) k
  have h2 := B.log (RB.d h) k
  unfold dq
  rw [okD, okAll, okAll, okAll, okD, okD]
  rw [decide_eq_true h1, decide_eq_true h2]
  rfl
def spCut (K : PySem.W.Frag) : Sp := fun vs H Q _ => ∃ n d : Int, vs = [.int n, .int d] ∧ d ≠ 0 ∧ B 8200 n ∧ B 8200 d ∧ ∀ t, H t = none → Q (.ref t) (upd H t (.tup (fq (Rat.divInt n d))))
def spBin (ok : Rat → Rat → Prop) (op : Rat → Rat → Rat) (K : PySem.W.Frag) : Sp := fun vs H Q _ => ∃ (f g : Addr) (a b : Rat), vs = [.ref f, .ref g] ∧ SqT K H f (fq a) ∧ SqT K H g (fq b) ∧ RB 4000 a ∧ RB 4000 b ∧ ok a b ∧ ∀ t, H t = none → Q (.ref t) (upd H t (.tup (fq (op a b))))
/-- a list of fractions -/
def FrL (K : PySem.W.Frag) (H : Hp) (m : Nat) (ps : List (Addr × Rat)) : Prop := ∀ p ∈ ps, SqT K H p.1 (fq p.2) ∧ RB m p.2
def spSum (op : Rat → Rat → Rat) (e : Rat) (K : PySem.W.Frag) : Sp := fun vs H Q _ => ∃ (l : Addr) (ps : List (Addr × Rat)) (m : Nat), vs = [.ref l] ∧ SqL K H l (ps.map fun p => .ref p.1) ∧ FrL K H m ps ∧ ps.length * (m + 1) ≤ 3900 ∧ ∀ H' t, Same H H' → H t = none → H' t = some (.tup (fq (ps.foldl (fun x p => op x p.2) e))) → RB (ps.length * (m + 1) + 1) (ps.foldl (fun x p => op x p.2) e) → Q (.ref t) H'
/-- a list that is being made of the fractions of ints -/
def FrD (H : Hp) (D : Addr) (ns : List Int) (i : Nat) : Prop := ∃ L : List Addr, H D = some (.lst (L.map V.ref)) ∧ L.length = i ∧ ∀ (j : Nat) (p : Addr), L[j]? = some p → ∃ n : Int, ns[j]? = some n ∧ H p = some (.tup (fq (n : Rat)))
theorem FrD.new {H : Hp} {D : Addr} {ns : List Int} : FrD (upd H D (.lst [])) D ns 0 := ⟨[], upd_same, rfl, fun j p h => by simp at h⟩
theorem FrD.push {H : Hp} {D t : Addr} {ns : List Int} {i : Nat} {n : Int} (h : FrD H D ns i) (hi : ns[i]? = some n) (nt : H t = none) (hl : i < 1000) :
    ∃ acc, (upd H t (.tup (fq (n : Rat)))) D = some (.lst acc) ∧ acc.length < sizeLine ∧ FrD (upd (upd H t (.tup (fq (n : Rat)))) D (.lst (acc ++ [.ref t]))) D ns (i + 1) := by
  obtain ⟨L, h1, h2, h3⟩ := h
  have hDt : D ≠ t := ne_of_none h1 nt
  refine ⟨L.map V.ref, by rw [upd_ne hDt]; exact h1, by rw [List.length_map]; exact small1000 (by omega), L ++ [t], ?_, by rw [List.length_append, h2]; rfl, fun j p hj => ?_⟩
  · rw [upd_same, List.map_append]
    rfl
  · rcases Nat.lt_or_ge j L.length with z | z
    · rw [List.getElem?_append_left z] at hj
      obtain ⟨m, hm, hp⟩ := h3 j p hj
      refine ⟨m, hm, ?_⟩
      have hpD : p ≠ D := ne_of hp h1 (by intro z; cases z)
      rw [upd_ne hpD, upd_ne (ne_of_none hp nt)]
      exact hp
    · rw [List.getElem?_append_right z] at hj
      have e : j - L.length = 0 := by
        rcases Nat.eq_zero_or_pos (j - L.length) with q | q
        · exact q
        · rw [List.getElem?_eq_none (by simp; omega)] at hj
          cases hj
      rw [e] at hj
      obtain rfl := Option.some.inj hj
      have ej : j = i := by omega
      refine ⟨n, by rw [ej]; exact hi, ?_⟩
      rw [upd_ne (fun q => hDt q.symm), upd_same]
theorem FrD.five {H : Hp} {D : Addr} {a b c d e : Int} (h : FrD H D [a, b, c, d, e] 5) : ∃ p1 p2 p3 p4 p5, H D = some (.lst [.ref p1, .ref p2, .ref p3, .ref p4, .ref p5]) ∧ H p1 = some (.tup (fq (a : Rat))) ∧ H p2 = some (.tup (fq (b : Rat))) ∧ H p3 = some (.tup (fq (c : Rat))) ∧ H p4 = some (.tup (fq (d : Rat))) ∧ H p5 = some (.tup (fq (e : Rat))) := by
  obtain ⟨L, h1, h2, h3⟩ := h
  match L, h2 with
  | [p1, p2, p3, p4, p5], _ =>
    have g : ∀ (j : Nat) (p : Addr) (n : Int), [p1, p2, p3, p4, p5][j]? = some p → [a, b, c, d, e][j]? = some n → H p = some (.tup (fq (n : Rat))) := fun j p n x y => by
      obtain ⟨m, hm, hp⟩ := h3 j p x
      rw [y] at hm
      obtain rfl := Option.some.inj hm
      exact hp
    exact ⟨p1, p2, p3, p4, p5, h1, g 0 _ _ rfl rfl, g 1 _ _ rfl rfl, g 2 _ _ rfl rfl, g 3 _ _ rfl rfl, g 4 _ _ rfl rfl⟩
/-! what stands of fractions in the heap -/
def FrE (K : PySem.W.Frag) (H : Hp) (es : List (Addr × Rat × Nat)) : Prop := ∀ x ∈ es, SqT K H x.1 (fq x.2.1) ∧ RB x.2.2 x.2.1
section
variable {K : PySem.W.Frag} {H H' : Hp} {es : List (Addr × Rat × Nat)} {p r : Addr} {a b : Rat} {m n : Nat} {Q : VK} {Z : XK}
theorem FrE.nil : FrE K H [] := fun x h => by cases h
theorem FrE.same (h : FrE K H es) (s : Same H H') : FrE K H' es := fun x k => ⟨Same.tup s (h x k).1, (h x k).2⟩
theorem FrE.get (h : FrE K H es) (k : (p, a, m) ∈ es) : SqT K H p (fq a) := (h _ k).1
theorem FrE.rb (h : FrE K H es) (k : (p, a, m) ∈ es) : RB m a := (h _ k).2
theorem FrE.add (h : FrE K H es) (k : SqT K H p (fq a)) (b : RB m a) : FrE K H ((p, a, m) :: es) := fun x z => by
  rcases List.mem_cons.mp z with rfl | z
  · exact ⟨k, b⟩
  · exact h x z
theorem FrE.re (h : FrE K H ((p, a, m) :: es)) (e : a = b) (k : RB n b) : FrE K H ((p, b, n) :: es) := fun x z => by
  subst e
  rcases List.mem_cons.mp z with rfl | z
  · exact ⟨(h _ List.mem_cons_self).1, k⟩
  · exact h x (List.mem_cons_of_mem _ z)
theorem FrE.sub {fs : List (Addr × Rat × Nat)} (h : FrE K H es) (k : ∀ x ∈ fs, x ∈ es) : FrE K H fs := fun x z => h x (k x z)
theorem stepE (E : FrE K H es) {t : Addr} (n : H t = none) {c : Rat} {k : Nat} (hb : RB k c) : ∃ H', upd H t (.tup (fq c)) = H' ∧ Same H H' ∧ FrE K H' ((t, c, k) :: es) :=
  ⟨_, rfl, Same.new n, (E.same (Same.new n)).add (tup_of upd_same) hb⟩
theorem litE (E : FrE K H es) {t : Addr} (n : H t = none) {vs : List V} {c : Rat} {k : Nat} (e : vs = fq c) (hb : RB k c) : ∃ H', upd H t (.tup vs) = H' ∧ Same H H' ∧ FrE K H' ((t, c, k) :: es) := by
  subst e
  exact stepE E n hb
theorem FrL.nil {M : Nat} : FrL K H M [] := fun x h => by cases h
theorem FrL.cons {M : Nat} {ps : List (Addr × Rat)} (E : FrE K H es) (k : (p, a, m) ∈ es) (hm : m ≤ M) (h : FrL K H M ps) : FrL K H M ((p, a) :: ps) := fun x z => by
  rcases List.mem_cons.mp z with rfl | z
  · exact ⟨E.get k, (E.rb k).up hm⟩
  · exact h x z
end
mutual
theorem dp_same {K : PySem.W.Frag} {H H' : Hp} (s : Same H H') : ∀ (d : PyData) (v : V), Dp K H v d → Dp K H' v d
  | .none, _, h => by
    cases h
    exact .non
  | .bool _, _, h => by
    cases h
    exact .bl _
  | .int _, _, h => by
    cases h
    exact .int _
  | .str _, _, h => by
    cases h
    exact .str _
  | .list ds, _, h => by
    cases h with
    | lst h1 h2 => exact .lst (s.seq h1) (dp_sameAll s ds _ h2)
  | .tuple ds, _, h => by
    cases h with
    | tup h1 h2 => exact .tup (Same.tup s h1) (dp_sameAll s ds _ h2)
  | .dict _, _, h => by cases h
theorem dp_sameAll {K : PySem.W.Frag} {H H' : Hp} (s : Same H H') : ∀ (ds : List PyData) (vs : List V), DpAll K H vs ds → DpAll K H' vs ds
  | [], _, h => by
    cases h
    exact .nil
  | d :: ds, _, h => by
    cases h with
    | cons h1 h2 => exact .cons (dp_same s d _ h1) (dp_sameAll s ds _ h2)
end
/-- a list's cell is no tuple's -/
theorem tup_put {K : PySem.W.Frag} {H : Hp} {D p : Addr} {L xs : List V} {o : HO} (hD : H D = some (.lst L)) (e : SqT K H p xs) : SqT K (upd H D o) p xs := by
  rcases e with (e | ⟨z, e⟩) | e
  · refine Or.inl (Or.inl ?_)
    rw [upd_ne (ne_of e hD (by intro z; cases z))]
    exact e
  · refine Or.inl (Or.inr ⟨z, ?_⟩)
    rw [upd_ne (ne_of e hD (by intro z; cases z))]
    exact e
  · exact Or.inr e
mutual
def noL : PyData → Bool
  | .list _ => false
  | .tuple ds => noLAll ds
  | .dict _ => false
  | _ => true
def noLAll : List PyData → Bool
  | [] => true
  | d :: ds => noL d && noLAll ds
end
mutual
theorem dp_put {K : PySem.W.Frag} {H : Hp} {D : Addr} {L : List V} {o : HO} (hD : H D = some (.lst L)) : ∀ (d : PyData) (v : V), noL d = true → Dp K H v d → Dp K (upd H D o) v d
  | .none, _, _, h => by
    cases h
    exact .non
  | .bool _, _, _, h => by
    cases h
    exact .bl _
  | .int _, _, _, h => by
    cases h
    exact .int _
  | .str _, _, _, h => by
    cases h
    exact .str _
  | .list ds, _, n, h => by
    rw [noL] at n
    cases n
  | .tuple ds, _, n, h => by
    rw [noL] at n
    cases h with
    | tup h1 h2 => exact .tup (tup_put hD h1) (dp_putAll hD ds _ n h2)
  | .dict _, _, _, h => by cases h
theorem dp_putAll {K : PySem.W.Frag} {H : Hp} {D : Addr} {L : List V} {o : HO} (hD : H D = some (.lst L)) : ∀ (ds : List PyData) (vs : List V), noLAll ds = true → DpAll K H vs ds → DpAll K (upd H D o) vs ds
  | [], _, _, h => by
    cases h
    exact .nil
  | d :: ds, _, n, h => by
    rw [noLAll, Bool.and_eq_true] at n
    cases h with
    | cons h1 h2 => exact .cons (dp_put hD d _ n.1 h1) (dp_putAll hD ds _ n.2 h2)
end
end Gd
set_option linter.all false
/-! roots: plain Lean -/
namespace QM
theorem dvd_pow' (a : Nat) {k : Nat} (h : k ≠ 0) : a ∣ a ^ k := by
  obtain ⟨j, rfl⟩ := Nat.exists_eq_succ_of_ne_zero h
  rw [Nat.pow_succ]
  exact Nat.dvd_mul_left a _
theorem ipow_le {a b : Int} (ha : 0 ≤ a) (h : a ≤ b) (k : Nat) : a ^ k ≤ b ^ k := by
  have h1 : a.natAbs ^ k ≤ b.natAbs ^ k := Nat.pow_le_pow_left (by omega) k
  rw [← Int.natAbs_pow, ← Int.natAbs_pow] at h1
  have h2 : 0 ≤ a ^ k := Int.pow_nonneg ha
  have h3 : 0 ≤ b ^ k := Int.pow_nonneg (by omega)
  omega
theorem pow_inj {a b k : Nat} (h : k ≠ 0) (e : a ^ k = b ^ k) : a = b := by
  rcases Nat.lt_trichotomy a b with x | x | x
  · have := Nat.pow_lt_pow_left x h
    omega
  · exact x
  · have := Nat.pow_lt_pow_left x h
    omega
theorem ipow_inj {a b : Int} {k : Nat} (h : k ≠ 0) (ha : 0 ≤ a) (hb : 0 ≤ b) (e : a ^ k = b ^ k) : a = b := by
  have h1 : a.natAbs ^ k = b.natAbs ^ k := by rw [← Int.natAbs_pow, ← Int.natAbs_pow, e]
  have := pow_inj h h1
  omega
theorem qpow_inj {a b : Rat} {k : Nat} (h : k ≠ 0) (ha : 0 < a) (hb : 0 < b) (e : a ^ k = b ^ k) : a = b := by
  have h1 := num_pos ha
  have h2 := num_pos hb
  have e1 : a.num ^ k = b.num ^ k := by rw [← npow, ← npow, e]
  have e2 : a.den ^ k = b.den ^ k := by rw [← dpow, ← dpow, e]
  exact Rat.ext (ipow_inj h (by omega) (by omega) e1) (pow_inj h e2)
/-- the root of a fraction from those of its parts -/
theorem rootQ {k : Nat} (hk : k ≠ 0) {q : Rat} {s t : Int} (hs0 : 0 < s) (ht0 : 0 < t) (hs : s ^ k = q.num) (ht : t ^ k = (q.den : Int)) : ∃ r : Rat, 0 < r ∧ r ^ k = q ∧ r.num = s ∧ (r.den : Int) = t := by
  have e1 : s.natAbs ^ k = q.num.natAbs := by rw [← Int.natAbs_pow, hs]
  have e2 : t.natAbs ^ k = q.den := by
    have h : (t ^ k).natAbs = ((q.den : Int)).natAbs := by rw [ht]
    rw [Int.natAbs_pow, Int.natAbs_natCast] at h
    exact h
  have hc : Nat.Coprime s.natAbs t.natAbs := by
    have c : Nat.Coprime (s.natAbs ^ k) (t.natAbs ^ k) := by
      rw [e1, e2]
      exact q.reduced
    have d1 : s.natAbs ∣ s.natAbs ^ k := dvd_pow' _ hk
    have d2 : t.natAbs ∣ t.natAbs ^ k := dvd_pow' _ hk
    exact Nat.Coprime.coprime_dvd_left d1 (Nat.Coprime.coprime_dvd_right d2 c)
  have hz : t.natAbs ≠ 0 := by omega
  refine ⟨⟨s, t.natAbs, hz, hc⟩, ?_, ?_, rfl, by show ((t.natAbs : Nat) : Int) = t; omega⟩
  · have h1 : (0 : Rat) ≤ ⟨s, t.natAbs, hz, hc⟩ := Rat.num_nonneg.mp (by show 0 ≤ s; omega)
    have h2 : (⟨s, t.natAbs, hz, hc⟩ : Rat) ≠ 0 := fun e => by
      have h3 : s = 0 := congrArg Rat.num e
      omega
    exact Rat.lt_of_le_of_ne h1 (fun e => h2 e.symm)
  · refine Rat.ext ?_ ?_
    · rw [npow]
      exact hs
    · rw [dpow]
      exact e2
/-- Newton's step -/
theorem mono {r s : Int} (hr : 0 ≤ r) (hs : 0 ≤ s) (k : Nat) : r * s ^ k + s * r ^ k ≤ r * r ^ k + s * s ^ k := by
  have key : 0 ≤ (r ^ k - s ^ k) * (r - s) := by
    rcases Int.le_total r s with h | h
    · have h1 : r ^ k ≤ s ^ k := ipow_le hr h k
      have := Int.mul_nonneg (show 0 ≤ s ^ k - r ^ k by omega) (show 0 ≤ s - r by omega)
      grind
    · have h1 : s ^ k ≤ r ^ k := ipow_le hs h k
      exact Int.mul_nonneg (by omega) (by omega)
  grind
theorem amgm {r s : Int} (hr : 0 ≤ r) (hs : 0 ≤ s) : ∀ k : Nat, ((k : Int) + 1) * s * r ^ k ≤ (k : Int) * (r * r ^ k) + s * s ^ k
  | 0 => by simp
  | k + 1 => by
    have h1 := amgm hr hs k
    have h2 := mono hr hs (k + 1)
    have h3 := Int.mul_le_mul_of_nonneg_left h1 hr
    rw [Int.pow_succ, Int.pow_succ] at *
    push_cast
    grind
theorem newton_ge {n r s : Int} {k : Nat} (hr : 1 ≤ r) (hs : 0 ≤ s) (h : s ^ (k + 1) ≤ n) : s ≤ ((k : Int) * r + n.fdiv (r ^ k)).fdiv ((k : Int) + 1) := by
  have hp : 0 < r ^ k := Int.pow_pos (by omega)
  have h1 := amgm (show 0 ≤ r by omega) hs k
  rw [Int.pow_succ] at h
  rw [Int.fdiv_eq_ediv_of_nonneg _ (Int.le_of_lt hp), Int.fdiv_eq_ediv_of_nonneg _ (by omega)]
  rw [Int.le_ediv_iff_mul_le (by omega)]
  have h2 : ((k : Int) + 1) * s - k * r ≤ n / r ^ k := by
    rw [Int.le_ediv_iff_mul_le hp]
    grind
  grind
theorem newton_le {n r : Int} {k : Nat} (hr : 1 ≤ r) (h : r ≤ ((k : Int) * r + n.fdiv (r ^ k)).fdiv ((k : Int) + 1)) : r ^ (k + 1) ≤ n := by
  have hp : 0 < r ^ k := Int.pow_pos (by omega)
  rw [Int.fdiv_eq_ediv_of_nonneg _ (Int.le_of_lt hp), Int.fdiv_eq_ediv_of_nonneg _ (by omega)] at h
  rw [Int.le_ediv_iff_mul_le (by omega)] at h
  have h2 : r ≤ n / r ^ k := by grind
  rw [Int.le_ediv_iff_mul_le hp] at h2
  rw [Int.pow_succ]
  grind
theorem start_ge {n s : Int} {k b : Nat} (hs : 0 ≤ s) (hb : n.natAbs < 2 ^ b) (hk : 0 < k) (h : s ^ k ≤ n) : s ≤ 1 * 2 ^ (b / k + 1) := by
  rw [Int.one_mul]
  rcases Int.le_total s (2 ^ (b / k + 1)) with z | z
  · exact z
  · exfalso
    have h1 : ((2 : Int) ^ (b / k + 1)) ^ k ≤ s ^ k := ipow_le (Int.le_of_lt (Int.pow_pos (by decide))) z k
    rw [← Int.pow_mul] at h1
    have h2 : b ≤ (b / k + 1) * k := by
      have := Nat.lt_div_mul_add (a := b) hk
      rw [Nat.add_mul, Nat.one_mul]
      omega
    have h3 : (2 : Nat) ^ b ≤ 2 ^ ((b / k + 1) * k) := Nat.pow_le_pow_right (by decide) h2
    have h4 : ((2 ^ b : Nat) : Int) ≤ ((2 ^ ((b / k + 1) * k) : Nat) : Int) := Int.ofNat_le.mpr h3
    rw [Int.natCast_pow, Int.natCast_pow] at h4
    have h5 : ((n.natAbs : Nat) : Int) < ((2 ^ b : Nat) : Int) := Int.ofNat_lt.mpr hb
    rw [Int.natCast_pow] at h5
    have e2 : ((2 : Nat) : Int) = 2 := rfl
    rw [e2] at h4 h5
    omega
theorem small_root {n s : Int} {k : Nat} (hs : 0 ≤ s) (hk : 1 ≤ k) (h : s ^ k ≤ n) : s ≤ n := by
  have h1 := le_npow s.natAbs hk
  have h2 : (s ^ k).natAbs = s.natAbs ^ k := Int.natAbs_pow s k
  have h3 : 0 ≤ s ^ k := Int.pow_nonneg hs
  omega
theorem pow01 {n : Int} (h0 : 0 ≤ n) (h2 : n < 2) {k : Nat} (hk : 1 ≤ k) : n ^ k ≤ n := by
  obtain ⟨j, rfl⟩ : ∃ j, k = j + 1 := ⟨k - 1, by omega⟩
  have e : n = 0 ∨ n = 1 := by omega
  rcases e with rfl | rfl
  · rw [Int.pow_succ, Int.mul_zero]
    exact Int.le_refl _
  · rw [Int.one_pow]
    exact Int.le_refl _
/-- the scale between two pairs -/
def U (c4 c6 e4 e6 : Int) (u : Rat) : Prop := 0 < u ∧ u ^ 4 * (e4 : Rat) = (c4 : Rat) ∧ u ^ 6 * (e6 : Rat) = (c6 : Rat)
theorem cz {a : Int} : (a : Rat) = 0 ↔ a = 0 := by
  constructor
  · intro h
    exact_mod_cast h
  · rintro rfl
    rfl
theorem pp {u : Rat} (h : 0 < u) (k : Nat) : u ^ k ≠ 0 := fun e => by
  have h1 := Rat.pow_pos (n := k) h
  rw [e] at h1
  exact absurd h1 (by decide)
theorem U.z4 {c4 c6 e4 e6 : Int} {u : Rat} (h : U c4 c6 e4 e6 u) : c4 = 0 ↔ e4 = 0 := by
  obtain ⟨h0, h1, h2⟩ := h
  have := pp h0 4
  rw [← cz, ← cz (a := e4), ← h1]
  grind
theorem U.z6 {c4 c6 e4 e6 : Int} {u : Rat} (h : U c4 c6 e4 e6 u) : c6 = 0 ↔ e6 = 0 := by
  obtain ⟨h0, h1, h2⟩ := h
  have := pp h0 6
  rw [← cz, ← cz (a := e6), ← h2]
  grind
theorem U.uniq {c4 c6 e4 e6 : Int} {u v : Rat} (z : e4 ≠ 0 ∨ e6 ≠ 0) (h : U c4 c6 e4 e6 u) (k : U c4 c6 e4 e6 v) : u = v := by
  obtain ⟨h0, h1, h2⟩ := h
  obtain ⟨k0, k1, k2⟩ := k
  rcases z with z | z
  · have z' : (e4 : Rat) ≠ 0 := fun e => z (cz.mp e)
    exact qpow_inj (k := 4) (by decide) h0 k0 (by grind)
  · have z' : (e6 : Rat) ≠ 0 := fun e => z (cz.mp e)
    exact qpow_inj (k := 6) (by decide) h0 k0 (by grind)
theorem U.p4 {c4 c6 e4 e6 : Int} {u : Rat} (z : e4 ≠ 0) (h : U c4 c6 e4 e6 u) : u ^ 4 = Rat.divInt c4 e4 := by
  obtain ⟨h0, h1, h2⟩ := h
  have z' : (e4 : Rat) ≠ 0 := fun e => z (cz.mp e)
  rw [Rat.divInt_eq_div]
  grind
theorem U.p6 {c4 c6 e4 e6 : Int} {u : Rat} (z : e6 ≠ 0) (h : U c4 c6 e4 e6 u) : u ^ 6 = Rat.divInt c6 e6 := by
  obtain ⟨h0, h1, h2⟩ := h
  have z' : (e6 : Rat) ≠ 0 := fun e => z (cz.mp e)
  rw [Rat.divInt_eq_div]
  grind
theorem U.p2 {c4 c6 e4 e6 : Int} {u : Rat} (z4 : c4 ≠ 0) (z6 : e6 ≠ 0) (h : U c4 c6 e4 e6 u) : u ^ 2 = Rat.divInt (c6 * e4) (e6 * c4) := by
  obtain ⟨h0, h1, h2⟩ := h
  have z6' : (e6 : Rat) ≠ 0 := fun e => z6 (cz.mp e)
  have z4' : (c4 : Rat) ≠ 0 := fun e => z4 (cz.mp e)
  have := pp h0 4
  rw [Rat.divInt_eq_div, Rat.intCast_mul, Rat.intCast_mul]
  have e : (c6 : Rat) * e4 = u ^ 2 * (e6 * c4) := by
    rw [← h1, ← h2]
    grind
  grind
theorem U.of4 {c4 e4 : Int} {u : Rat} (z : e4 ≠ 0) (h0 : 0 < u) (h : u ^ 4 = Rat.divInt c4 e4) : U c4 0 e4 0 u := by
  have z' : (e4 : Rat) ≠ 0 := fun e => z (cz.mp e)
  rw [Rat.divInt_eq_div] at h
  refine ⟨h0, by grind, by grind⟩
theorem U.of6 {c6 e6 : Int} {u : Rat} (z : e6 ≠ 0) (h0 : 0 < u) (h : u ^ 6 = Rat.divInt c6 e6) : U 0 c6 0 e6 u := by
  have z' : (e6 : Rat) ≠ 0 := fun e => z (cz.mp e)
  rw [Rat.divInt_eq_div] at h
  refine ⟨h0, by grind, by grind⟩
theorem U.of2 {c4 c6 e4 e6 : Int} {u : Rat} (z4 : c4 ≠ 0) (y4 : e4 ≠ 0) (z6 : e6 ≠ 0) (h0 : 0 < u) (h : u ^ 2 = Rat.divInt (c6 * e4) (e6 * c4)) : U c4 c6 e4 e6 u ↔ (u.num * u.num) * (u.num * u.num) * e4 = (u.den * u.den) * (u.den * u.den) * c4 := by
  have z6' : (e6 : Rat) ≠ 0 := fun e => z6 (cz.mp e)
  have z4' : (c4 : Rat) ≠ 0 := fun e => z4 (cz.mp e)
  have y4' : (e4 : Rat) ≠ 0 := fun e => y4 (cz.mp e)
  have hd := denR u
  have hu := as_div u
  rw [Rat.divInt_eq_div, Rat.intCast_mul, Rat.intCast_mul] at h
  have k : u ^ 4 * (e4 : Rat) = c4 ↔ (u.num * u.num) * (u.num * u.num) * e4 = ((u.den : Int) * u.den) * (u.den * u.den) * c4 := by
    rw [← Rat.intCast_inj]
    simp only [Rat.intCast_mul]
    constructor
    · intro e
      grind
    · intro e
      grind
  constructor
  · rintro ⟨_, h1, _⟩
    exact k.mp h1
  · intro e
    have h1 := k.mpr e
    refine ⟨h0, h1, ?_⟩
    have h3 : u ^ 6 = u ^ 4 * u ^ 2 := by grind
    have h5 : (e6 : Rat) * c4 ≠ 0 := fun e => by
      rcases Rat.mul_eq_zero.mp e with e | e
      · exact z6' e
      · exact z4' e
    have h6 : u ^ 2 * ((e6 : Rat) * c4) = c6 * e4 := by
      rw [h]
      grind
    have h7 : u ^ 6 * e6 * c4 = c6 * c4 := by
      rw [h3]
      have : u ^ 4 * u ^ 2 * e6 * c4 = u ^ 4 * (u ^ 2 * (e6 * c4)) := by grind
      rw [this, h6, ← h1]
      grind
    grind
theorem div_ne {n d : Int} (h : n ≠ 0) (k : d ≠ 0) : Rat.divInt n d ≠ 0 := fun e => by
  have hn : (n : Rat) ≠ 0 := fun e => h (cz.mp e)
  have hd : (d : Rat) ≠ 0 := fun e => k (cz.mp e)
  rw [Rat.divInt_eq_div] at e
  grind
theorem qpos {u : Rat} (h : 0 < u) (k : Nat) : 0 < u ^ k := Rat.pow_pos h
theorem U.pos6 {c4 c6 e4 e6 : Int} {u : Rat} (z : e6 ≠ 0) (h : U c4 c6 e4 e6 u) : 0 < (Rat.divInt c6 e6).num := by
  rw [← U.p6 z h]
  exact num_pos (qpos h.1 6)
theorem U.pos4 {c4 c6 e4 e6 : Int} {u : Rat} (z : e4 ≠ 0) (h : U c4 c6 e4 e6 u) : 0 < c4 * e4 := by
  have h1 : 0 < (Rat.divInt c4 e4).num := by
    rw [← U.p4 z h]
    exact num_pos (qpos h.1 4)
  rw [Rat.num_divInt] at h1
  have h2 : 0 < e4.sign * c4 := by
    have hg : (0 : Int) < ((Int.gcd e4 c4 : Nat) : Int) := by
      have := Int.gcd_pos_of_ne_zero_left c4 z
      omega
    have h3 := (Int.le_ediv_iff_mul_le (a := 1) (b := e4.sign * c4) hg).mp (by omega)
    omega
  rcases Int.lt_trichotomy e4 0 with y | y | y
  · rw [Int.sign_eq_neg_one_of_neg y] at h2
    exact Int.mul_pos_of_neg_of_neg (by omega) y
  · exact absurd y z
  · rw [Int.sign_eq_one_of_pos y] at h2
    exact Int.mul_pos (by omega) y
theorem U.sq4 {c4 c6 e4 e6 : Int} {u r : Rat} (z : e4 ≠ 0) (h : U c4 c6 e4 e6 u) (r0 : 0 < r) (re : r ^ 2 = Rat.divInt c4 e4) : u ^ 2 = r := by
  refine qpow_inj (k := 2) (by decide) (qpos h.1 2) r0 ?_
  rw [re, ← U.p4 z h]
  grind
theorem U.sq4' {c4 c6 e4 e6 : Int} {u : Rat} (z : e4 ≠ 0) (h : U c4 c6 e4 e6 u) : (u ^ 2) ^ 2 = Rat.divInt c4 e4 := by
  rw [← U.p4 z h]
  grind
theorem U.cb6 {c4 c6 e4 e6 : Int} {u r : Rat} (z : e6 ≠ 0) (h : U c4 c6 e4 e6 u) (r0 : 0 < r) (re : r ^ 3 = Rat.divInt c6 e6) : u ^ 2 = r := by
  refine qpow_inj (k := 3) (by decide) (qpos h.1 2) r0 ?_
  rw [re, ← U.p6 z h]
  grind
theorem U.cb6' {c4 c6 e4 e6 : Int} {u : Rat} (z : e6 ≠ 0) (h : U c4 c6 e4 e6 u) : (u ^ 2) ^ 3 = Rat.divInt c6 e6 := by
  rw [← U.p6 z h]
  grind
theorem U.iff {c4 c6 e4 e6 : Int} {u : Rat} (h : 0 < u) : U c4 c6 e4 e6 u ↔ (e6 : Rat) * u ^ 6 = (c6 : Rat) ∧ (e4 : Rat) * u ^ 4 = (c4 : Rat) := by
  unfold U
  constructor
  · rintro ⟨_, h1, h2⟩
    exact ⟨by grind, by grind⟩
  · rintro ⟨h1, h2⟩
    exact ⟨h, by grind, by grind⟩
end QM
set_option Elab.async false
set_option linter.all false
set_option maxRecDepth 100000
namespace L2
open PySem PySem.Spec PyProof.Rows
section
variable {X : Cx}
def rIsqrt : List V → Hp → VK → Prop := fun vs H Q => ∃ a : Int, vs = [.int a] ∧ 0 ≤ a ∧ a.natAbs < 2 ^ 4000 ∧ Q (.int ((Float64.isqrt a.toNat : Nat) : Int)) H
theorem isq_int1 {i : Int} {us : List Value} (r : Vals [V.int i] us) : ∃ t, us = [Value.int i t] := by
  obtain ⟨t, u, h⟩ := Vals.int2 (i := i) (j := i) (us := us ++ us) (by
    cases r with
    | cons a b => cases b; exact .cons a (.cons a .nil))
  match us, h with
  | [_], h => exact ⟨t, by simp at h; rw [h.1]⟩
  | [], h => simp at h
  | _ :: _ :: _, h => simp at h
theorem cr_isqrt : CallR X (.builtin "math.isqrt") rIsqrt := by
  intro pins s σ H vs us Q I r h
  obtain ⟨a, rfl, h0, h1, q⟩ := h
  obtain ⟨t, rfl⟩ := isq_int1 r
  have hl : a.toNat.log2 ≤ 3999 := PySem.W.mg_log (k := 3999) (by rw [show a.toNat = a.natAbs by omega]; exact h1)
  exact call_function_meets PySem.W.MGF.kind_isqrt PySem.W.MGF.plain_isqrt PySem.W.MGF.entry_isqrt (PySem.W.MGF.args_isqrt _) (PySem.W.mg_run_isqrt a t (by omega) (by omega) (by omega)).meets ⟨.int _, H, I.tok _, ⟨_, rfl⟩, q⟩
end
end L2
namespace QM
/-- the whole root of a number -/
theorem isqrt_is {n : Int} (h : 0 ≤ n) : ((PySem.Float64.isqrt n.toNat : Nat) : Int) * ((PySem.Float64.isqrt n.toNat : Nat) : Int) ≤ n ∧ ∀ s : Int, 0 ≤ s → s * s ≤ n → s ≤ ((PySem.Float64.isqrt n.toNat : Nat) : Int) := by
  obtain ⟨a, b⟩ := PySem.Float64.isqrt_spec n.toNat
  generalize PySem.Float64.isqrt n.toNat = q at a b
  have e : ((n.toNat : Nat) : Int) = n := Int.toNat_of_nonneg h
  have a' : (q : Int) * q ≤ n := by rw [← e]; exact_mod_cast a
  have b' : n < ((q : Int) + 1) * (q + 1) := by rw [← e]; exact_mod_cast b
  refine ⟨a', fun s hs h1 => ?_⟩
  rcases (show (q : Int) < s ∨ s ≤ q by omega) with z | z
  · exfalso
    have := Int.mul_le_mul (show (q : Int) + 1 ≤ s by omega) (show (q : Int) + 1 ≤ s by omega) (by omega) hs
    omega
  · exact z
end QM
set_option Elab.async false
set_option linter.all false
set_option maxRecDepth 100000
set_option maxHeartbeats 4000000
namespace K13
open PySem PySem.Spec PyProof.Rows L2 Gd QM
def topS (i : Nat) : Stmt := PySem.Challenge.pw_pointsum_k13_whole_least_models.main.body.getD i (.Pass ⟨0, 0, 0, 0⟩)
/-- what the walk asks of the module's names -/
structure Tx (K : PySem.W.Frag) (mg : Str → Option Value) : Prop where
  gcd : mg "gcd" = some (.builtin "math.gcd")
  isqrt : mg "isqrt" = some (.builtin "math.isqrt")
  int : mg "int" = none
  len : mg "len" = none
  tuple : mg "tuple" = none
  sorted : mg "sorted" = none
  min : mg "min" = none
  abs : mg "abs" = none
  range : mg "range" = none
  enumerate : mg "enumerate" = none
  repr : mg "repr" = none
  c_TRIED_shortening : ∃ u, mg "TRIED_shortening" = some u ∧ RelV (.int 10000) u
  c_REDUCED_B2 : ∃ a, (∃ u, mg "REDUCED_B2" = some u ∧ RelV (.ref a) u) ∧ ∀ H, SqT K H a [.int 0, .int 1, .int 4, .int 5, .int (-4), .int (-3)]
theorem iteN {c A B : Prop} [Decidable c] (h : ¬ c) (b : B) : if c then A else B := by
  rw [if_neg h]
  exact b
theorem iteY {c A B : Prop} [Decidable c] (h : c) (b : A) : if c then A else B := by
  rw [if_pos h]
  exact b
/-- the five numbers of a curve -/
structure Cv where
  a1 : Int
  a2 : Int
  a3 : Int
  a4 : Int
  a6 : Int
namespace Cv
variable (c : Cv)
def tup : List V := [.int c.a1, .int c.a2, .int c.a3, .int c.a4, .int c.a6]
def b2 : Int := c.a1 * c.a1 + 4 * c.a2
def b4 : Int := 2 * c.a4 + c.a1 * c.a3
def b6 : Int := c.a3 * c.a3 + 4 * c.a6
def b8 : Int := c.a1 * c.a1 * c.a6 + 4 * c.a2 * c.a6 - c.a1 * c.a3 * c.a4 + c.a2 * c.a3 * c.a3 - c.a4 * c.a4
def c4 : Int := c.b2 * c.b2 - 24 * c.b4
def c6 : Int := 36 * c.b2 * c.b4 - c.b2 * c.b2 * c.b2 - 216 * c.b6
def disc : Int := 9 * c.b2 * c.b4 * c.b6 - c.b2 * c.b2 * c.b8 - 8 * c.b4 * c.b4 * c.b4 - 27 * c.b6 * c.b6
def nums : List V := [.int c.b2, .int c.b4, .int c.b6, .int c.b8, .int c.c4, .int c.c6, .int c.disc]
/-- a drawn curve -/
structure Sm : Prop where
  h1 : B 10 c.a1
  h2 : B 10 c.a2
  h3 : B 10 c.a3
  h4 : B 30 c.a4
  h6 : B 30 c.a6
/-- a curve that is tried -/
structure Md : Prop where
  h1 : B 12 c.a1
  h2 : B 12 c.a2
  h3 : B 12 c.a3
  h4 : B 60 c.a4
  h6 : B 110 c.a6
end Cv
local macro_rules | `(tactic| walk_at "bd") => `(tactic| (repeat (first | assumption | apply B.add | apply B.sub | apply B.mul | apply B.neg | exact B.lit (n := 8) (by decide))))
local macro_rules | `(tactic| walk_at "bu") => `(tactic| (apply B.up; walk_at "bd"; decide))
local macro_rules | `(tactic| walk_at "bnd") => `(tactic| (apply B.mulW; walk_at "bd"; decide))
theorem Cv.Sm.md {c : Cv} (h : c.Sm) : c.Md := ⟨h.h1.up (by decide), h.h2.up (by decide), h.h3.up (by decide), h.h4.up (by decide), h.h6.up (by decide)⟩
theorem Cv.Md.b2 {c : Cv} (h : c.Md) : B 25 c.b2 := by
  obtain ⟨h1, h2, h3, h4, h6⟩ := h
  unfold Cv.b2
  walk_at "bu"
theorem Cv.Md.b4 {c : Cv} (h : c.Md) : B 62 c.b4 := by
  obtain ⟨h1, h2, h3, h4, h6⟩ := h
  have e := h1.mul h3
  unfold Cv.b4
  unfold B at *
  omega
theorem Cv.Md.b6 {c : Cv} (h : c.Md) : B 119 c.b6 := by
  obtain ⟨h1, h2, h3, h4, h6⟩ := h
  unfold Cv.b6
  walk_at "bu"
theorem Cv.Md.b8 {c : Cv} (h : c.Md) : B 140 c.b8 := by
  obtain ⟨h1, h2, h3, h4, h6⟩ := h
  unfold Cv.b8
  walk_at "bu"
theorem Cv.Sm.c4 {c : Cv} (h : c.Sm) : B 43 c.c4 := by
  obtain ⟨h1, h2, h3, h4, h6⟩ := h
  have e2 : B 21 c.b2 := by
    have e := h1.mul h1
    unfold Cv.b2
    unfold B at *
    omega
  have e4 : B 32 c.b4 := by
    have e := h1.mul h3
    unfold Cv.b4
    unfold B at *
    omega
  have e := e2.mul e2
  unfold Cv.c4
  unfold B at *
  omega
theorem Cv.Sm.c6 {c : Cv} (h : c.Sm) : B 80 c.c6 := by
  obtain ⟨h1, h2, h3, h4, h6⟩ := h
  unfold Cv.c6 Cv.b2 Cv.b4 Cv.b6
  walk_at "bu"
section
variable {P : Program} {w : World} {K : PySem.W.Frag} {mg : Str → Option Value} {base : Heap}
/-! ### five -/
def sp_five (K : PySem.W.Frag) : Sp := fun vs H Q _ => ∃ (p : Addr) (c : Cv), vs = [.ref p] ∧ SqT K H p c.tup ∧ Q (.ref p) H
abbrev s_five : Stmt := topS 31
theorem sc_five : FnScope ["curve", "a", "b", "c"] ["curve"] (defScope s_five) := ⟨rfl, rfl, rfl, by decide +kernel, rfl, by decide +kernel, by decide +kernel⟩
theorem k_five (T : Tx K mg) (D : Df K mg "five" s_five ["curve"])  : Kl P w K mg base 1 "five" (sp_five K) := by
  have nd := sc_five.nd
  refine Kl.by_body D sc_five (fun vs H Q E h => ?_) (fun f cdv A outer s H vs Q E hr h => ?_)
  · obtain ⟨_, _, rfl, _⟩ := h
    rfl
  · obtain ⟨p, c, rfl, hx, q⟩ := h
    have hu1 := hu_of hr
    refine ⟨_, (pss_cons (ps_if (pt_cmpR op_eq (pe_callB call_len_seq (by rfl) T.len (by decide +kernel) (pa_cons (pv 0) pa_nil)) pe_int (nomark _)) (pss_cons (ps_asg (pv 0) (pg_tup rfl (pgs_cons (pg_name (i := 1) nd rfl (by first | exact Or.inl rfl | exact Or.inr rfl)) (pgs_cons (pg_name (i := 2) nd rfl (by first | exact Or.inl rfl | exact Or.inr rfl)) (pgs_cons (pg_name (i := 3) nd rfl (by first | exact Or.inl rfl | exact Or.inr rfl)) pgs_nil)))))
      (pss_one (ps_ret (pe_tup (pa_cons pe_int (pa_cons (pv 1) (pa_cons pe_int (pa_cons (pv 2) (pa_cons (pv 3) pa_nil))))))))) pss_nil)
      (pss_one (ps_ret (pv 0)))), ?_⟩
    refine ⟨.ref p, rfl, p, _, rfl, .inr hx, rfl, _, rfl, ?_⟩
    refine iteN (by simp [Cv.tup]) ?_
    exact ⟨.ref p, rfl, q⟩
/-! ### lowest -/
def sp_lowest : PySem.W.Frag → Sp := spCut
abbrev s_lowest : Stmt := topS 7
theorem sc_lowest : FnScope ["n", "d", "shared"] ["n", "d"] (defScope s_lowest) := ⟨rfl, rfl, rfl, by decide +kernel, rfl, by decide +kernel, by decide +kernel⟩
theorem k_lowest (T : Tx K mg) (D : Df K mg "lowest" s_lowest ["n", "d"])  : Kl P w K mg base 1 "lowest" (sp_lowest K) := by
  have nd := sc_lowest.nd
  refine Kl.by_body D sc_lowest (fun vs H Q E h => ?_) (fun f cdv A outer s H vs Q E hr h => ?_)
  · obtain ⟨_, _, rfl, _⟩ := h
    rfl
  · obtain ⟨n, d, rfl, hd, hn, hb, q⟩ := h
    have hu1 := hu_of hr
    refine ⟨_, (pss_cons (ps_set (i := 2) nd rfl (by first | exact Or.inl rfl | exact Or.inr rfl) (pe_callBfun cr_gcd (by rfl) T.gcd (pa_cons (pv 0) (pa_cons (pv 1) pa_nil))))
      (pss_cons (ps_if (pt_cmpR op_lt (pv 1) pe_int (nomark _)) (pss_one (ps_set (i := 2) nd rfl (by first | exact Or.inl rfl | exact Or.inr rfl) (pe_un un_neg (pv 2)))) pss_nil)
      (pss_one (ps_ret (pe_tup (pa_cons (pe_op op_fdivAny (pv 0) (pv 2)) (pa_cons (pe_op op_fdivAny (pv 1) (pv 2)) pa_nil))))))), ?_⟩
    refine ⟨_, rfl, _, rfl, n, d, rfl, ?_⟩
    have h1 : sg n d ≠ 0 := sg_ne hd
    have h2 : CDivAny n (sg n d) := div_any h1 (sg_B hd hb) (by decide)
    have h3 : CDivAny d (sg n d) := div_any h1 (sg_B hd hb) (by decide)
    refine ⟨_, rfl, d, 0, rfl, rfl, _, rfl, ite2 (fun e => ?_) (fun e => ?_)⟩
    · have e' : d < 0 := of_decide_eq_true e
      have es : sg n d = -((Nat.gcd n.natAbs d.natAbs : Nat) : Int) := if_pos e'
      refine ⟨_, rfl, _, rfl, ?_⟩
      refine ⟨_, rfl, _, rfl, n, _, rfl, rfl, es ▸ h2, _, rfl, _, rfl, d, _, rfl, rfl, es ▸ h3, (by show 2 ≤ sizeLine; decide), fun t nt => ?_⟩
      rw [← fq_div hd, es] at q
      exact q t nt
    · have e' : ¬ d < 0 := fun z => e (decide_eq_true z)
      have es : sg n d = ((Nat.gcd n.natAbs d.natAbs : Nat) : Int) := if_neg e'
      refine ⟨_, rfl, _, rfl, n, _, rfl, rfl, es ▸ h2, _, rfl, _, rfl, d, _, rfl, rfl, es ▸ h3, (by show 2 ≤ sizeLine; decide), fun t nt => ?_⟩
      rw [← fq_div hd, es] at q
      exact q t nt
/-! ### the sums -/
def sp_plus : PySem.W.Frag → Sp := spBin (fun a b => True) (fun a b => a + b)
abbrev s_plus : Stmt := topS 34
theorem sc_plus : FnScope ["f", "g"] ["f", "g"] (defScope s_plus) := ⟨rfl, rfl, rfl, by decide +kernel, rfl, by decide +kernel, by decide +kernel⟩
theorem k_plus (T : Tx K mg) (D : Df K mg "plus" s_plus ["f", "g"]) (c_lowest : Kl P w K mg base 1 "lowest" (sp_lowest K)) : Kl P w K mg base 2 "plus" (sp_plus K) := by
  have nd := sc_plus.nd
  refine Kl.by_body D sc_plus (fun vs H Q E h => ?_) (fun f cdv A outer s H vs Q E hr h => ?_)
  · obtain ⟨_, _, _, _, rfl, _⟩ := h
    rfl
  · obtain ⟨f, g, a, b, rfl, hf, hg, ha, hb, h0, q⟩ := h
    have hu1 := hu_of hr
    refine ⟨_, (pss_one (ps_ret (pe_k c_lowest  hr (by decide) (by rfl) (pa_cons (pe_op op_add (pe_op op_mulW (pe_ix ix_tup (pv 0) pe_int (fun _ _ => rfl)) (pe_ix ix_tup (pv 1) pe_int (fun _ _ => rfl))) (pe_op op_mulW (pe_ix ix_tup (pv 1) pe_int (fun _ _ => rfl)) (pe_ix ix_tup (pv 0) pe_int (fun _ _ => rfl)))) (pa_cons (pe_op op_mulW (pe_ix ix_tup (pv 0) pe_int (fun _ _ => rfl)) (pe_ix ix_tup (pv 1) pe_int (fun _ _ => rfl))) pa_nil))))), ?_⟩
    refine ⟨.ref f, rfl, f, _, 0, .int a.num, rfl, rfl, hf, rfl, .ref g, rfl, g, _, 1, .int b.den, rfl, rfl, hg, rfl, _, _, rfl, rfl, (B.mulW ha.n hb.d (by decide)), .ref g, rfl, g, _, 0, .int b.num, rfl, rfl, hg, rfl, .ref f, rfl, f, _, 1, .int a.den, rfl, rfl, hf, rfl, _, _, rfl, rfl, (B.mulW hb.n ha.d (by decide)), _, _, rfl, rfl, .ref f, rfl, f, _, 1, .int a.den, rfl, rfl, hf, rfl, .ref g, rfl, g, _, 1, .int b.den, rfl, rfl, hg, rfl, _, _, rfl, rfl, (B.mulW ha.d hb.d (by decide)), _, _, rfl, (mul_ne (den_ne a) (den_ne b)), ((B.mul ha.n hb.d).add (B.mul hb.n ha.d)).up (by decide), (B.mul ha.d hb.d).up (by decide), fun t nt => ?_⟩
    rw [fr_add a b]
    exact q t nt
def sp_times : PySem.W.Frag → Sp := spBin (fun a b => True) (fun a b => a * b)
abbrev s_times : Stmt := topS 36
theorem sc_times : FnScope ["f", "g"] ["f", "g"] (defScope s_times) := ⟨rfl, rfl, rfl, by decide +kernel, rfl, by decide +kernel, by decide +kernel⟩
theorem k_times (T : Tx K mg) (D : Df K mg "times" s_times ["f", "g"]) (c_lowest : Kl P w K mg base 1 "lowest" (sp_lowest K)) : Kl P w K mg base 2 "times" (sp_times K) := by
  have nd := sc_times.nd
  refine Kl.by_body D sc_times (fun vs H Q E h => ?_) (fun f cdv A outer s H vs Q E hr h => ?_)
  · obtain ⟨_, _, _, _, rfl, _⟩ := h
    rfl
  · obtain ⟨f, g, a, b, rfl, hf, hg, ha, hb, h0, q⟩ := h
    have hu1 := hu_of hr
    refine ⟨_, (pss_one (ps_ret (pe_k c_lowest  hr (by decide) (by rfl) (pa_cons (pe_op op_mulW (pe_ix ix_tup (pv 0) pe_int (fun _ _ => rfl)) (pe_ix ix_tup (pv 1) pe_int (fun _ _ => rfl))) (pa_cons (pe_op op_mulW (pe_ix ix_tup (pv 0) pe_int (fun _ _ => rfl)) (pe_ix ix_tup (pv 1) pe_int (fun _ _ => rfl))) pa_nil))))), ?_⟩
    refine ⟨.ref f, rfl, f, _, 0, .int a.num, rfl, rfl, hf, rfl, .ref g, rfl, g, _, 0, .int b.num, rfl, rfl, hg, rfl, _, _, rfl, rfl, (B.mulW ha.n hb.n (by decide)), .ref f, rfl, f, _, 1, .int a.den, rfl, rfl, hf, rfl, .ref g, rfl, g, _, 1, .int b.den, rfl, rfl, hg, rfl, _, _, rfl, rfl, (B.mulW ha.d hb.d (by decide)), _, _, rfl, (mul_ne (den_ne a) (den_ne b)), (B.mul ha.n hb.n).up (by decide), (B.mul ha.d hb.d).up (by decide), fun t nt => ?_⟩
    rw [fr_mul a b]
    exact q t nt
def sp_over : PySem.W.Frag → Sp := spBin (fun a b => b ≠ 0) (fun a b => a / b)
abbrev s_over : Stmt := topS 37
theorem sc_over : FnScope ["f", "g"] ["f", "g"] (defScope s_over) := ⟨rfl, rfl, rfl, by decide +kernel, rfl, by decide +kernel, by decide +kernel⟩
theorem k_over (T : Tx K mg) (D : Df K mg "over" s_over ["f", "g"]) (c_lowest : Kl P w K mg base 1 "lowest" (sp_lowest K)) : Kl P w K mg base 2 "over" (sp_over K) := by
  have nd := sc_over.nd
  refine Kl.by_body D sc_over (fun vs H Q E h => ?_) (fun f cdv A outer s H vs Q E hr h => ?_)
  · obtain ⟨_, _, _, _, rfl, _⟩ := h
    rfl
  · obtain ⟨f, g, a, b, rfl, hf, hg, ha, hb, h0, q⟩ := h
    have hu1 := hu_of hr
    refine ⟨_, (pss_one (ps_ret (pe_k c_lowest  hr (by decide) (by rfl) (pa_cons (pe_op op_mulW (pe_ix ix_tup (pv 0) pe_int (fun _ _ => rfl)) (pe_ix ix_tup (pv 1) pe_int (fun _ _ => rfl))) (pa_cons (pe_op op_mulW (pe_ix ix_tup (pv 0) pe_int (fun _ _ => rfl)) (pe_ix ix_tup (pv 1) pe_int (fun _ _ => rfl))) pa_nil))))), ?_⟩
    refine ⟨.ref f, rfl, f, _, 0, .int a.num, rfl, rfl, hf, rfl, .ref g, rfl, g, _, 1, .int b.den, rfl, rfl, hg, rfl, _, _, rfl, rfl, (B.mulW ha.n hb.d (by decide)), .ref f, rfl, f, _, 1, .int a.den, rfl, rfl, hf, rfl, .ref g, rfl, g, _, 0, .int b.num, rfl, rfl, hg, rfl, _, _, rfl, rfl, (B.mulW ha.d hb.n (by decide)), _, _, rfl, (mul_ne (den_ne a) (num_ne h0)), (B.mul ha.n hb.d).up (by decide), (B.mul ha.d hb.n).up (by decide), fun t nt => ?_⟩
    rw [fr_div a b h0]
    exact q t nt
/-! ### whole_fraction -/
def sp_whole_fraction (K : PySem.W.Frag) : Sp := fun vs H Q _ => ∃ n : Int, vs = [.int n] ∧ ∀ t, H t = none → Q (.ref t) (upd H t (.tup (fq (n : Rat))))
abbrev s_whole_fraction : Stmt := topS 38
theorem sc_whole_fraction : FnScope ["n"] ["n"] (defScope s_whole_fraction) := ⟨rfl, rfl, rfl, by decide +kernel, rfl, by decide +kernel, by decide +kernel⟩
theorem k_whole_fraction (T : Tx K mg) (D : Df K mg "whole_fraction" s_whole_fraction ["n"])  : Kl P w K mg base 1 "whole_fraction" (sp_whole_fraction K) := by
  have nd := sc_whole_fraction.nd
  refine Kl.by_body D sc_whole_fraction (fun vs H Q E h => ?_) (fun f cdv A outer s H vs Q E hr h => ?_)
  · obtain ⟨_, rfl, _⟩ := h
    rfl
  · obtain ⟨n, rfl, q⟩ := h
    have hu1 := hu_of hr
    refine ⟨_, (pss_one (ps_ret (pe_tup (pa_cons (pv 0) (pa_cons pe_int pa_nil))))), ?_⟩
    refine ⟨_, rfl, (by show 2 ≤ sizeLine; decide), fun t nt => ?_⟩
    rw [fq_int] at q
    exact q t nt
/-! ### total, product -/
theorem foldl_take (op : Rat → Rat → Rat) (e : Rat) (ps : List (Addr × Rat)) {i : Nat} {p : Addr × Rat} (h : ps[i]? = some p) : (ps.take (i + 1)).foldl (fun x p => op x p.2) e = op ((ps.take i).foldl (fun x p => op x p.2) e) p.2 := by
  rw [List.take_succ, List.foldl_append, h]
  rfl
theorem map_get {ps : List (Addr × Rat)} {i : Nat} {x : V} (h : (ps.map fun p => V.ref p.1)[i]? = some x) : ∃ p, ps[i]? = some p ∧ x = .ref p.1 := by
  rw [List.getElem?_map] at h
  cases e : ps[i]? with
  | none =>
    rw [e] at h
    cases h
  | some p =>
    rw [e] at h
    exact ⟨p, rfl, (Option.some.inj h).symm⟩
def sp_total : PySem.W.Frag → Sp := spSum (· + ·) 0
theorem q0 : [V.int 0, V.int 1] = fq 0 := rfl
theorem q1 : [V.int 1, V.int 1] = fq 1 := rfl
theorem _root_.QM.RB.zero : RB 1 (0 : Rat) := ⟨by decide, by decide⟩
theorem _root_.QM.RB.one : RB 1 (1 : Rat) := ⟨by decide, by decide⟩
abbrev s_total : Stmt := topS 39
theorem sc_total : FnScope ["fractions", "result", "f"] ["fractions"] (defScope s_total) := ⟨rfl, rfl, rfl, by decide +kernel, rfl, by decide +kernel, by decide +kernel⟩
theorem k_total (T : Tx K mg) (D : Df K mg "total" s_total ["fractions"]) (c_plus : Kl P w K mg base 2 "plus" (sp_plus K)) : Kl P w K mg base 3 "total" (sp_total K) := by
  have nd := sc_total.nd
  refine Kl.by_body D sc_total (fun vs H Q E h => ?_) (fun f cdv A outer s H vs Q E hr h => ?_)
  · obtain ⟨_, _, _, rfl, _⟩ := h
    rfl
  · obtain ⟨l, ps, m, rfl, hx, hp, hl, q⟩ := h
    have hu1 := hu_of hr
    refine ⟨_, (pss_cons (ps_set (i := 1) nd rfl (by first | exact Or.inl rfl | exact Or.inr rfl) (pe_tup (pa_cons pe_int (pa_cons pe_int pa_nil))))
      (pss_cons (ps_for PassesOwn.never rfl (pi_list (pv 0)) (pg_name (i := 2) nd rfl (by first | exact Or.inl rfl | exact Or.inr rfl)) (pss_one (ps_set (i := 1) nd rfl (by first | exact Or.inl rfl | exact Or.inr rfl) (pe_k c_plus  hr (by decide) (by rfl) (pa_cons (pv 1) (pa_cons (pv 2) pa_nil))))))
      (pss_one (ps_ret (pv 1))))), ?_⟩
    refine ⟨(by show 2 ≤ sizeLine; decide), fun r nr => ?_⟩
    rw [q0]
    have s1 := Same.new (H := H) (p := r) (o := .tup (fq 0)) nr
    have g1 : upd H r (.tup (fq 0)) r = some (.tup (fq 0)) := upd_same
    generalize upd H r (.tup (fq 0)) = H1 at s1 g1 ⊢
    refine ⟨_, rfl, l, rfl, ⟨_, s1.seq hx⟩, for_list (K := K) (a := l) (xs := ps.map fun p => .ref p.1) (fun i σ H2 => Same H H2 ∧ ∃ (r : Addr) (v : Option V), σ = [some (.ref l), some (.ref r), v] ∧ H r = none ∧ H2 r = some (.tup (fq ((ps.take i).foldl (fun x p => x + p.2) 0))) ∧ RB (i * (m + 1) + 1) ((ps.take i).foldl (fun x p => x + p.2) 0)) ⟨s1, r, none, rfl, nr, g1, RB.zero.up (by omega)⟩ (fun i σ H2 _ z => z.1.seq hx) ?_ ?_⟩
    · rintro i x σ H2 hi ⟨s2, r2, v, rfl, n2, g2, b2⟩
      obtain ⟨p, hpi, rfl⟩ := map_get hi
      obtain ⟨h1, h2⟩ := hp p (List.mem_of_getElem? hpi)
      have hi2 : i < ps.length := (List.getElem?_eq_some_iff.mp hpi).1
      have hsz : (i + 1) * (m + 1) ≤ 3900 := Nat.le_trans (Nat.mul_le_mul_right _ hi2) hl
      rw [Nat.add_mul, Nat.one_mul] at hsz
      refine ⟨_, rfl, _, rfl, r2, p.1, _, _, rfl, tup_of g2, Same.tup s2 h1, b2.up (by omega), h2.up (by omega), trivial, fun t nt => ?_⟩
      refine ⟨Same.put s2 (s2.free nt), t, _, rfl, s2.free nt, ?_, ?_⟩
      · rw [upd_same, foldl_take _ _ _ hpi]
      · rw [foldl_take (fun a b => a + b) 0 _ hpi]
        exact (b2.add h2).up (by rw [Nat.add_mul]; omega)
    · rintro σ H2 ⟨s2, r2, v, rfl, n2, g2, b2⟩
      rw [List.length_map, List.take_length] at g2
      rw [List.length_map, List.take_length] at b2
      exact ⟨_, rfl, q _ r2 s2 n2 g2 b2⟩
def sp_product : PySem.W.Frag → Sp := spSum (· * ·) 1
abbrev s_product : Stmt := topS 40
theorem sc_product : FnScope ["fractions", "result", "f"] ["fractions"] (defScope s_product) := ⟨rfl, rfl, rfl, by decide +kernel, rfl, by decide +kernel, by decide +kernel⟩
theorem k_product (T : Tx K mg) (D : Df K mg "product" s_product ["fractions"]) (c_times : Kl P w K mg base 2 "times" (sp_times K)) : Kl P w K mg base 3 "product" (sp_product K) := by
  have nd := sc_product.nd
  refine Kl.by_body D sc_product (fun vs H Q E h => ?_) (fun f cdv A outer s H vs Q E hr h => ?_)
  · obtain ⟨_, _, _, rfl, _⟩ := h
    rfl
  · obtain ⟨l, ps, m, rfl, hx, hp, hl, q⟩ := h
    have hu1 := hu_of hr
    refine ⟨_, (pss_cons (ps_set (i := 1) nd rfl (by first | exact Or.inl rfl | exact Or.inr rfl) (pe_tup (pa_cons pe_int (pa_cons pe_int pa_nil))))
      (pss_cons (ps_for PassesOwn.never rfl (pi_list (pv 0)) (pg_name (i := 2) nd rfl (by first | exact Or.inl rfl | exact Or.inr rfl)) (pss_one (ps_set (i := 1) nd rfl (by first | exact Or.inl rfl | exact Or.inr rfl) (pe_k c_times  hr (by decide) (by rfl) (pa_cons (pv 1) (pa_cons (pv 2) pa_nil))))))
      (pss_one (ps_ret (pv 1))))), ?_⟩
    refine ⟨(by show 2 ≤ sizeLine; decide), fun r nr => ?_⟩
    rw [q1]
    have s1 := Same.new (H := H) (p := r) (o := .tup (fq 1)) nr
    have g1 : upd H r (.tup (fq 1)) r = some (.tup (fq 1)) := upd_same
    generalize upd H r (.tup (fq 1)) = H1 at s1 g1 ⊢
    refine ⟨_, rfl, l, rfl, ⟨_, s1.seq hx⟩, for_list (K := K) (a := l) (xs := ps.map fun p => .ref p.1) (fun i σ H2 => Same H H2 ∧ ∃ (r : Addr) (v : Option V), σ = [some (.ref l), some (.ref r), v] ∧ H r = none ∧ H2 r = some (.tup (fq ((ps.take i).foldl (fun x p => x * p.2) 1))) ∧ RB (i * (m + 1) + 1) ((ps.take i).foldl (fun x p => x * p.2) 1)) ⟨s1, r, none, rfl, nr, g1, RB.one.up (by omega)⟩ (fun i σ H2 _ z => z.1.seq hx) ?_ ?_⟩
    · rintro i x σ H2 hi ⟨s2, r2, v, rfl, n2, g2, b2⟩
      obtain ⟨p, hpi, rfl⟩ := map_get hi
      obtain ⟨h1, h2⟩ := hp p (List.mem_of_getElem? hpi)
      have hi2 : i < ps.length := (List.getElem?_eq_some_iff.mp hpi).1
      have hsz : (i + 1) * (m + 1) ≤ 3900 := Nat.le_trans (Nat.mul_le_mul_right _ hi2) hl
      rw [Nat.add_mul, Nat.one_mul] at hsz
      refine ⟨_, rfl, _, rfl, r2, p.1, _, _, rfl, tup_of g2, Same.tup s2 h1, b2.up (by omega), h2.up (by omega), trivial, fun t nt => ?_⟩
      refine ⟨Same.put s2 (s2.free nt), t, _, rfl, s2.free nt, ?_, ?_⟩
      · rw [upd_same, foldl_take _ _ _ hpi]
      · rw [foldl_take (fun a b => a * b) 1 _ hpi]
        exact (b2.mul h2).up (by rw [Nat.add_mul]; omega)
    · rintro σ H2 ⟨s2, r2, v, rfl, n2, g2, b2⟩
      rw [List.length_map, List.take_length] at g2
      rw [List.length_map, List.take_length] at b2
      exact ⟨_, rfl, q _ r2 s2 n2 g2 b2⟩
end
end K13
set_option Elab.async false
set_option linter.all false
set_option maxRecDepth 100000
set_option maxHeartbeats 4000000
namespace K13
open PySem PySem.Spec PyProof.Rows L2 Gd QM
local macro_rules | `(tactic| walk_at "bd") => `(tactic| (repeat (first | assumption | apply B.add | apply B.sub | apply B.mul | apply B.neg | exact B.lit (n := 8) (by decide))))
local macro_rules | `(tactic| walk_at "bu") => `(tactic| (apply B.up; walk_at "bd"; decide))
local macro_rules | `(tactic| walk_at "bnd") => `(tactic| (apply B.mulW; walk_at "bd"; decide))
local macro_rules | `(tactic| walk_at "pw") => `(tactic| exact B.up (n := 64) (by assumption) (by decide))
theorem abs_eq (i : Int) : (if i < 0 then -i else i) = (i.natAbs : Int) := by
  split <;> omega
section
variable {P : Program} {w : World} {K : PySem.W.Frag} {mg : Str → Option Value} {base : Heap}
/-! ### the law's common factor -/
def sp_law_common (K : PySem.W.Frag) : Sp := fun vs H Q _ => ∃ a b : Int, vs = [.int a, .int b] ∧ B 8200 a ∧ B 8200 b ∧ Q (.int ((Nat.gcd a.natAbs b.natAbs : Nat) : Int)) H
theorem gcd_turn {x y : Int} (h1 : 0 ≤ x) (h2 : 0 ≤ y) (h0 : y ≠ 0) : 0 ≤ x - x.fdiv y * y ∧ (x - x.fdiv y * y).natAbs < y.natAbs ∧ Nat.gcd y.natAbs (x - x.fdiv y * y).natAbs = Nat.gcd x.natAbs y.natAbs := by
  have e : x - x.fdiv y * y = x % y := by
    rw [Int.fdiv_eq_ediv_of_nonneg x h2, Int.emod_def, Int.mul_comm]
  have h3 : 0 ≤ x % y := Int.emod_nonneg x h0
  have h4 : x % y < y := Int.emod_lt_of_pos x (by omega)
  rw [e]
  refine ⟨h3, by omega, ?_⟩
  have e2 : (x % y).natAbs = x.natAbs % y.natAbs := by
    rw [Int.natAbs_emod_of_nonneg h1]
  rw [e2, Nat.gcd_comm y.natAbs, ← Nat.gcd_rec y.natAbs x.natAbs, Nat.gcd_comm]
abbrev s__law_common : Stmt := topS 58
theorem sc__law_common : FnScope ["a", "b"] ["a", "b"] (defScope s__law_common) := ⟨rfl, rfl, rfl, by decide +kernel, rfl, by decide +kernel, by decide +kernel⟩
theorem k_law_common (T : Tx K mg) (D : Df K mg "_law_common" s__law_common ["a", "b"])  : Kl P w K mg base 1 "_law_common" (sp_law_common K) := by
  have nd := sc__law_common.nd
  refine Kl.by_body D sc__law_common (fun vs H Q E h => ?_) (fun f cdv A outer s H vs Q E hr h => ?_)
  · obtain ⟨_, _, rfl, _⟩ := h
    rfl
  · obtain ⟨a, b, rfl, ha, hb, q⟩ := h
    have hu1 := hu_of hr
    refine ⟨_, (pss_cons (ps_par (i := 0) (j := 1) (by rfl) nd rfl rfl (by decide) rfl rfl (pa_cons (pe_callB call_abs (by rfl) T.abs (by decide +kernel) (pa_cons (pv 0) pa_nil)) (pa_cons (pe_callB call_abs (by rfl) T.abs (by decide +kernel) (pa_cons (pv 1) pa_nil)) pa_nil)) (by rfl))
      (pss_cons (ps_while PassesOwn.never (pt_cmpR op_ne (pv 1) pe_int (nomark _)) (pss_one (ps_par (i := 0) (j := 1) (by rfl) nd rfl rfl (by decide) rfl rfl (pa_cons (pv 1) (pa_cons (pe_op op_sub (pv 0) (pe_op op_mulW (pe_op op_fdivAny (pv 0) (pv 1)) (pv 1))) pa_nil)) (by rfl))))
      (pss_one (ps_ret (pv 0))))), ?_⟩
    refine ⟨_, rfl, a, rfl, _, rfl, b, rfl, _, _, rfl, ?_⟩
    rw [abs_eq, abs_eq]
    first | refine sigN [some (.int ((a.natAbs : Int))), some (.int ((b.natAbs : Int)))] (by rfl) ?_ | refine sig [some (.int ((a.natAbs : Int))), some (.int ((b.natAbs : Int)))] (by rfl) ?_
    have na : B 8200 (a.natAbs : Int) := by
      unfold B at *
      omega
    have nb : B 8200 (b.natAbs : Int) := by
      unfold B at *
      omega
    refine while_by (fun σ H2 => ∃ x y : Int, σ = [some (.int x), some (.int y)] ∧ H2 = H ∧ 0 ≤ x ∧ 0 ≤ y ∧ Nat.gcd x.natAbs y.natAbs = Nat.gcd a.natAbs b.natAbs ∧ B 8200 x ∧ B 8200 y)
      (fun σ _ => match σ with | [_, some (.int y)] => y.natAbs | _ => 0) ⟨_, _, rfl, rfl, by omega, by omega, by rw [Int.natAbs_natCast, Int.natAbs_natCast], na, nb⟩ ?_ ?_
    · rintro σ H2 ⟨x, y, rfl, rfl, h1, h2, h3, h4, h5⟩
      refine ⟨_, rfl, rfl, _, rfl, ?_⟩
      rw [dec_int]
      by_cases h0 : y = 0
      · subst h0
        refine iteN (by simp) ?_
        refine ⟨_, rfl, ?_⟩
        rw [← h3] at q
        have e : ((Nat.gcd x.natAbs (0 : Int).natAbs : Nat) : Int) = x := by
          rw [show (0 : Int).natAbs = 0 from rfl, Nat.gcd_zero_right]
          omega
        rw [e] at q
        exact q
      · refine iteY (by simp [h0]) ?_
        obtain ⟨g1, g2, g3⟩ := gcd_turn h1 h2 h0
        have d1 : B 8200 (x.fdiv y) := by
          rw [Int.fdiv_eq_ediv_of_nonneg x h2]
          have e1 : 0 ≤ x / y := Int.ediv_nonneg h1 h2
          have e2 : x / y ≤ x := Int.ediv_le_self y h1
          unfold B at *
          omega
        refine ⟨_, rfl, _, rfl, _, rfl, _, rfl, x, y, rfl, rfl, div_any h0 h5 (by decide), _, rfl, _, _, rfl, rfl, d1.mulW h5 (by decide), _, _, rfl, rfl, _, _, rfl, ?_⟩
        have g4 : B 8200 (x - x.fdiv y * y) := by
          unfold B at *
          omega
        exact ⟨⟨_, _, rfl, rfl, h2, g1, g3.trans h3, h5, g4⟩, g2⟩
    · rintro σ H2 Q1 Q2 i ⟨v, hv, hs, k, e, z⟩
      exact ⟨v, hv, hs, k, e, i _ _ z⟩
/-! ### cut -/
def sp_law_cut : PySem.W.Frag → Sp := spCut
abbrev s__law_cut : Stmt := topS 59
theorem sc__law_cut : FnScope ["n", "d", "part"] ["n", "d"] (defScope s__law_cut) := ⟨rfl, rfl, rfl, by decide +kernel, rfl, by decide +kernel, by decide +kernel⟩
theorem k_law_cut (T : Tx K mg) (D : Df K mg "_law_cut" s__law_cut ["n", "d"]) (c_law_common : Kl P w K mg base 1 "_law_common" (sp_law_common K)) : Kl P w K mg base 2 "_law_cut" (sp_law_cut K) := by
  have nd := sc__law_cut.nd
  refine Kl.by_body D sc__law_cut (fun vs H Q E h => ?_) (fun f cdv A outer s H vs Q E hr h => ?_)
  · obtain ⟨_, _, rfl, _⟩ := h
    rfl
  · obtain ⟨n, d, rfl, h0, hn, hd, q⟩ := h
    have hu1 := hu_of hr
    refine ⟨_, (pss_cons (ps_set (i := 2) nd rfl (by first | exact Or.inl rfl | exact Or.inr rfl) (pe_k c_law_common  hr (by decide) (by rfl) (pa_cons (pv 0) (pa_cons (pv 1) pa_nil))))
      (pss_cons (ps_set (i := 2) nd rfl (by first | exact Or.inl rfl | exact Or.inr rfl) (pe_ifExp (pt_cmpR op_gt (pv 1) pe_int (nomark _)) (pv 2) (pe_un un_neg (pv 2))))
      (pss_one (ps_ret (pe_tup (pa_cons (pe_op op_fdivAny (pv 0) (pv 2)) (pa_cons (pe_op op_fdivAny (pv 1) (pv 2)) pa_nil))))))), ?_⟩
    refine ⟨_, rfl, _, rfl, n, d, rfl, hn, hd, ?_⟩
    have hs : sg n d ≠ 0 := sg_ne h0
    have c1 : CDivAny n (sg n d) := div_any hs (sg_B h0 hd) (by decide)
    have c2 : CDivAny d (sg n d) := div_any hs (sg_B h0 hd) (by decide)
    rw [← fq_div h0] at q
    refine ⟨_, rfl, _, _, rfl, rfl, _, rfl, ite2 (fun e => ?_) (fun e => ?_)⟩
    · have e' : 0 < d := of_decide_eq_true e
      have es : sg n d = ((Nat.gcd n.natAbs d.natAbs : Nat) : Int) := if_neg (by omega)
      refine ⟨_, rfl, ?_⟩
      refine ⟨_, rfl, _, rfl, n, _, rfl, rfl, es ▸ c1, _, rfl, _, rfl, d, _, rfl, rfl, es ▸ c2, (by show 2 ≤ sizeLine; decide), fun t nt => ?_⟩
      rw [es] at q
      exact q t nt
    · have e' : ¬ 0 < d := fun z => e (decide_eq_true z)
      have es : sg n d = -((Nat.gcd n.natAbs d.natAbs : Nat) : Int) := if_pos (by omega)
      refine ⟨_, rfl, _, rfl, ?_⟩
      refine ⟨_, rfl, _, rfl, n, _, rfl, rfl, es ▸ c1, _, rfl, _, rfl, d, _, rfl, rfl, es ▸ c2, (by show 2 ≤ sizeLine; decide), fun t nt => ?_⟩
      rw [es] at q
      exact q t nt
/-! ### the law's sums, of pairs that need not be in lowest terms -/
end
/-- a pair that tells a fraction -/
def PrT (K : PySem.W.Frag) (H : Hp) (p : Addr) (q : Rat) (m : Nat) : Prop := ∃ n d : Int, SqT K H p [.int n, .int d] ∧ d ≠ 0 ∧ Rat.divInt n d = q ∧ B m n ∧ B m d
section
variable {K : PySem.W.Frag} {H H' : Hp} {es : List (Addr × Rat × Nat)} {p r : Addr} {a b : Rat} {m n : Nat}
theorem PrT.of (h : SqT K H p (fq a)) (b : RB m a) : PrT K H p a m := ⟨a.num, a.den, h, den_ne a, Rat.num_divInt_den a, b.n, b.d⟩
theorem PrT.same (h : PrT K H p a m) (s : Same H H') : PrT K H' p a m := by
  obtain ⟨n, d, h1, h2⟩ := h
  exact ⟨n, d, Same.tup s h1, h2⟩
theorem PrT.up (h : PrT K H p a m) (k : m ≤ n) : PrT K H p a n := by
  obtain ⟨x, d, h1, h2, h3, h4, h5⟩ := h
  exact ⟨x, d, h1, h2, h3, h4.up k, h5.up k⟩
theorem PrT.rb (h : PrT K H p a m) : RB m a := by
  obtain ⟨x, d, h1, h2, h3, h4, h5⟩ := h
  rw [← h3]
  exact RB.of h2 h4 h5
def FrG (K : PySem.W.Frag) (H : Hp) (es : List (Addr × Rat × Nat)) : Prop := ∀ x ∈ es, PrT K H x.1 x.2.1 x.2.2
theorem FrG.nil : FrG K H [] := fun x h => by cases h
theorem FrG.same (h : FrG K H es) (s : Same H H') : FrG K H' es := fun x k => (h x k).same s
theorem FrG.get (h : FrG K H es) (k : (p, a, m) ∈ es) : PrT K H p a m := h _ k
theorem FrG.rb (h : FrG K H es) (k : (p, a, m) ∈ es) : RB m a := (h _ k).rb
theorem FrG.addP (h : FrG K H es) (k : PrT K H p a m) : FrG K H ((p, a, m) :: es) := fun x z => by
  rcases List.mem_cons.mp z with rfl | z
  · exact k
  · exact h x z
theorem FrG.add (h : FrG K H es) (k : SqT K H p (fq a)) (b : RB m a) : FrG K H ((p, a, m) :: es) := h.addP (.of k b)
theorem FG.stepE (E : FrG K H es) {t : Addr} (n : H t = none) {c : Rat} {k : Nat} (hb : RB k c) : ∃ H', upd H t (.tup (fq c)) = H' ∧ Same H H' ∧ FrG K H' ((t, c, k) :: es) :=
  ⟨_, rfl, Same.new n, (E.same (Same.new n)).add (tup_of upd_same) hb⟩
theorem FG.litE (E : FrG K H es) {t : Addr} (n : H t = none) {vs : List V} {c : Rat} {k : Nat} (e : vs = fq c) (hb : RB k c) : ∃ H', upd H t (.tup vs) = H' ∧ Same H H' ∧ FrG K H' ((t, c, k) :: es) := by
  subst e
  exact FG.stepE E n hb
end
def spBinG (ok : Rat → Rat → Prop) (op : Rat → Rat → Rat) (K : PySem.W.Frag) : Sp := fun vs H Q _ => ∃ (f g : Addr) (a b : Rat) (m n : Nat), vs = [.ref f, .ref g] ∧ PrT K H f a m ∧ PrT K H g b n ∧ RB m a ∧ RB n b ∧ m + n ≤ 8100 ∧ ok a b ∧ ∀ t, H t = none → Q (.ref t) (upd H t (.tup (fq (op a b))))
theorem divInt_over {n1 d1 n2 d2 : Int} (z1 : d1 ≠ 0) (z2 : d2 ≠ 0) (z3 : n2 ≠ 0) : Rat.divInt n1 d1 / Rat.divInt n2 d2 = Rat.divInt (n1 * d2) (d1 * n2) := by
  have c1 : (d1 : Rat) ≠ 0 := fun z => z1 (by exact_mod_cast z)
  have c2 : (d2 : Rat) ≠ 0 := fun z => z2 (by exact_mod_cast z)
  have c3 : (n2 : Rat) ≠ 0 := fun z => z3 (by exact_mod_cast z)
  rw [Rat.divInt_eq_div, Rat.divInt_eq_div, Rat.divInt_eq_div, Rat.intCast_mul, Rat.intCast_mul]
  grind
section
variable {P : Program} {w : World} {K : PySem.W.Frag} {mg : Str → Option Value} {base : Heap}
def sp_law_plus : PySem.W.Frag → Sp := spBinG (fun a b => True) (fun a b => a + b)
abbrev s__law_plus : Stmt := topS 60
theorem sc__law_plus : FnScope ["f", "g"] ["f", "g"] (defScope s__law_plus) := ⟨rfl, rfl, rfl, by decide +kernel, rfl, by decide +kernel, by decide +kernel⟩
theorem k_law_plus (T : Tx K mg) (D : Df K mg "_law_plus" s__law_plus ["f", "g"]) (c_law_cut : Kl P w K mg base 2 "_law_cut" (sp_law_cut K)) : Kl P w K mg base 3 "_law_plus" (sp_law_plus K) := by
  have nd := sc__law_plus.nd
  refine Kl.by_body D sc__law_plus (fun vs H Q E h => ?_) (fun f cdv A outer s H vs Q E hr h => ?_)
  · obtain ⟨_, _, _, _, _, _, rfl, _⟩ := h
    rfl
  · obtain ⟨f, g, a, b, m, n, rfl, ⟨n1, d1, hf, z1, e1, bn1, bd1⟩, ⟨n2, d2, hg, z2, e2, bn2, bd2⟩, -, -, hmn, h0, q⟩ := h
    have hu1 := hu_of hr
    refine ⟨_, (pss_one (ps_ret (pe_k c_law_cut  hr (by decide) (by rfl) (pa_cons (pe_op op_add (pe_op op_mulW (pe_ix ix_tup (pv 0) pe_int (fun _ _ => rfl)) (pe_ix ix_tup (pv 1) pe_int (fun _ _ => rfl))) (pe_op op_mulW (pe_ix ix_tup (pv 1) pe_int (fun _ _ => rfl)) (pe_ix ix_tup (pv 0) pe_int (fun _ _ => rfl)))) (pa_cons (pe_op op_mulW (pe_ix ix_tup (pv 0) pe_int (fun _ _ => rfl)) (pe_ix ix_tup (pv 1) pe_int (fun _ _ => rfl))) pa_nil))))), ?_⟩
    have key : Rat.divInt (n1 * d2 + n2 * d1) (d1 * d2) = a + b := by
      rw [← e1, ← e2]
      exact (Rat.divInt_add_divInt n1 n2 z1 z2).symm
    refine ⟨.ref f, rfl, f, _, 0, .int n1, rfl, rfl, hf, rfl, .ref g, rfl, g, _, 1, .int d2, rfl, rfl, hg, rfl, _, _, rfl, rfl, (bn1.mulW bd2 (by omega)), .ref g, rfl, g, _, 0, .int n2, rfl, rfl, hg, rfl, .ref f, rfl, f, _, 1, .int d1, rfl, rfl, hf, rfl, _, _, rfl, rfl, (bn2.mulW bd1 (by omega)), _, _, rfl, rfl, .ref f, rfl, f, _, 1, .int d1, rfl, rfl, hf, rfl, .ref g, rfl, g, _, 1, .int d2, rfl, rfl, hg, rfl, _, _, rfl, rfl, (bd1.mulW bd2 (by omega)), _, _, rfl, (Int.mul_ne_zero z1 z2), ((B.mul bn1 bd2).add (B.mul bn2 bd1)).up (by omega), (B.mul bd1 bd2).up (by omega), fun t nt => ?_⟩
    rw [key]
    exact q t nt
def sp_law_less : PySem.W.Frag → Sp := spBinG (fun a b => True) (fun a b => a - b)
abbrev s__law_less : Stmt := topS 61
theorem sc__law_less : FnScope ["f", "g"] ["f", "g"] (defScope s__law_less) := ⟨rfl, rfl, rfl, by decide +kernel, rfl, by decide +kernel, by decide +kernel⟩
theorem k_law_less (T : Tx K mg) (D : Df K mg "_law_less" s__law_less ["f", "g"]) (c_law_cut : Kl P w K mg base 2 "_law_cut" (sp_law_cut K)) : Kl P w K mg base 3 "_law_less" (sp_law_less K) := by
  have nd := sc__law_less.nd
  refine Kl.by_body D sc__law_less (fun vs H Q E h => ?_) (fun f cdv A outer s H vs Q E hr h => ?_)
  · obtain ⟨_, _, _, _, _, _, rfl, _⟩ := h
    rfl
  · obtain ⟨f, g, a, b, m, n, rfl, ⟨n1, d1, hf, z1, e1, bn1, bd1⟩, ⟨n2, d2, hg, z2, e2, bn2, bd2⟩, -, -, hmn, h0, q⟩ := h
    have hu1 := hu_of hr
    refine ⟨_, (pss_one (ps_ret (pe_k c_law_cut  hr (by decide) (by rfl) (pa_cons (pe_op op_sub (pe_op op_mulW (pe_ix ix_tup (pv 0) pe_int (fun _ _ => rfl)) (pe_ix ix_tup (pv 1) pe_int (fun _ _ => rfl))) (pe_op op_mulW (pe_ix ix_tup (pv 1) pe_int (fun _ _ => rfl)) (pe_ix ix_tup (pv 0) pe_int (fun _ _ => rfl)))) (pa_cons (pe_op op_mulW (pe_ix ix_tup (pv 0) pe_int (fun _ _ => rfl)) (pe_ix ix_tup (pv 1) pe_int (fun _ _ => rfl))) pa_nil))))), ?_⟩
    have key : Rat.divInt (n1 * d2 - n2 * d1) (d1 * d2) = a - b := by
      rw [← e1, ← e2]
      exact (Rat.divInt_sub_divInt n1 n2 z1 z2).symm
    refine ⟨.ref f, rfl, f, _, 0, .int n1, rfl, rfl, hf, rfl, .ref g, rfl, g, _, 1, .int d2, rfl, rfl, hg, rfl, _, _, rfl, rfl, (bn1.mulW bd2 (by omega)), .ref g, rfl, g, _, 0, .int n2, rfl, rfl, hg, rfl, .ref f, rfl, f, _, 1, .int d1, rfl, rfl, hf, rfl, _, _, rfl, rfl, (bn2.mulW bd1 (by omega)), _, _, rfl, rfl, .ref f, rfl, f, _, 1, .int d1, rfl, rfl, hf, rfl, .ref g, rfl, g, _, 1, .int d2, rfl, rfl, hg, rfl, _, _, rfl, rfl, (bd1.mulW bd2 (by omega)), _, _, rfl, (Int.mul_ne_zero z1 z2), ((B.mul bn1 bd2).sub (B.mul bn2 bd1)).up (by omega), (B.mul bd1 bd2).up (by omega), fun t nt => ?_⟩
    rw [key]
    exact q t nt
def sp_law_by : PySem.W.Frag → Sp := spBinG (fun a b => True) (fun a b => a * b)
abbrev s__law_by : Stmt := topS 62
theorem sc__law_by : FnScope ["f", "g"] ["f", "g"] (defScope s__law_by) := ⟨rfl, rfl, rfl, by decide +kernel, rfl, by decide +kernel, by decide +kernel⟩
theorem k_law_by (T : Tx K mg) (D : Df K mg "_law_by" s__law_by ["f", "g"]) (c_law_cut : Kl P w K mg base 2 "_law_cut" (sp_law_cut K)) : Kl P w K mg base 3 "_law_by" (sp_law_by K) := by
  have nd := sc__law_by.nd
  refine Kl.by_body D sc__law_by (fun vs H Q E h => ?_) (fun f cdv A outer s H vs Q E hr h => ?_)
  · obtain ⟨_, _, _, _, _, _, rfl, _⟩ := h
    rfl
  · obtain ⟨f, g, a, b, m, n, rfl, ⟨n1, d1, hf, z1, e1, bn1, bd1⟩, ⟨n2, d2, hg, z2, e2, bn2, bd2⟩, -, -, hmn, h0, q⟩ := h
    have hu1 := hu_of hr
    refine ⟨_, (pss_one (ps_ret (pe_k c_law_cut  hr (by decide) (by rfl) (pa_cons (pe_op op_mulW (pe_ix ix_tup (pv 0) pe_int (fun _ _ => rfl)) (pe_ix ix_tup (pv 1) pe_int (fun _ _ => rfl))) (pa_cons (pe_op op_mulW (pe_ix ix_tup (pv 0) pe_int (fun _ _ => rfl)) (pe_ix ix_tup (pv 1) pe_int (fun _ _ => rfl))) pa_nil))))), ?_⟩
    have key : Rat.divInt (n1 * n2) (d1 * d2) = a * b := by
      rw [← e1, ← e2]
      exact (Rat.divInt_mul_divInt n1 n2 ).symm
    refine ⟨.ref f, rfl, f, _, 0, .int n1, rfl, rfl, hf, rfl, .ref g, rfl, g, _, 0, .int n2, rfl, rfl, hg, rfl, _, _, rfl, rfl, (bn1.mulW bn2 (by omega)), .ref f, rfl, f, _, 1, .int d1, rfl, rfl, hf, rfl, .ref g, rfl, g, _, 1, .int d2, rfl, rfl, hg, rfl, _, _, rfl, rfl, (bd1.mulW bd2 (by omega)), _, _, rfl, (Int.mul_ne_zero z1 z2), (B.mul bn1 bn2).up (by omega), (B.mul bd1 bd2).up (by omega), fun t nt => ?_⟩
    rw [key]
    exact q t nt
def sp_law_over : PySem.W.Frag → Sp := spBinG (fun a b => b ≠ 0) (fun a b => a / b)
abbrev s__law_over : Stmt := topS 63
theorem sc__law_over : FnScope ["f", "g"] ["f", "g"] (defScope s__law_over) := ⟨rfl, rfl, rfl, by decide +kernel, rfl, by decide +kernel, by decide +kernel⟩
theorem k_law_over (T : Tx K mg) (D : Df K mg "_law_over" s__law_over ["f", "g"]) (c_law_cut : Kl P w K mg base 2 "_law_cut" (sp_law_cut K)) : Kl P w K mg base 3 "_law_over" (sp_law_over K) := by
  have nd := sc__law_over.nd
  refine Kl.by_body D sc__law_over (fun vs H Q E h => ?_) (fun f cdv A outer s H vs Q E hr h => ?_)
  · obtain ⟨_, _, _, _, _, _, rfl, _⟩ := h
    rfl
  · obtain ⟨f, g, a, b, m, n, rfl, ⟨n1, d1, hf, z1, e1, bn1, bd1⟩, ⟨n2, d2, hg, z2, e2, bn2, bd2⟩, -, -, hmn, h0, q⟩ := h
    have hu1 := hu_of hr
    refine ⟨_, (pss_one (ps_ret (pe_k c_law_cut  hr (by decide) (by rfl) (pa_cons (pe_op op_mulW (pe_ix ix_tup (pv 0) pe_int (fun _ _ => rfl)) (pe_ix ix_tup (pv 1) pe_int (fun _ _ => rfl))) (pa_cons (pe_op op_mulW (pe_ix ix_tup (pv 0) pe_int (fun _ _ => rfl)) (pe_ix ix_tup (pv 1) pe_int (fun _ _ => rfl))) pa_nil))))), ?_⟩
    have key : Rat.divInt (n1 * d2) (d1 * n2) = a / b := by
      rw [← e1, ← e2]
      exact (divInt_over z1 z2 (fun z => h0 (by rw [← e2, z, Rat.zero_divInt]))).symm
    refine ⟨.ref f, rfl, f, _, 0, .int n1, rfl, rfl, hf, rfl, .ref g, rfl, g, _, 1, .int d2, rfl, rfl, hg, rfl, _, _, rfl, rfl, (bn1.mulW bd2 (by omega)), .ref f, rfl, f, _, 1, .int d1, rfl, rfl, hf, rfl, .ref g, rfl, g, _, 0, .int n2, rfl, rfl, hg, rfl, _, _, rfl, rfl, (bd1.mulW bn2 (by omega)), _, _, rfl, (Int.mul_ne_zero z1 (fun z => h0 (by rw [← e2, z, Rat.zero_divInt]))), (B.mul bn1 bd2).up (by omega), (B.mul bd1 bn2).up (by omega), fun t nt => ?_⟩
    rw [key]
    exact q t nt
/-! ### the numbers of a curve -/
theorem Cv.nums_c6 (c : Cv) : c.c6 = 36 * c.b2 * c.b4 - c.b2 ^ 3 - 216 * c.b6 := by
  unfold Cv.c6
  grind
theorem Cv.nums_d (c : Cv) : c.disc = 9 * c.b2 * c.b4 * c.b6 - c.b2 * c.b2 * c.b8 - 8 * c.b4 ^ 3 - 27 * c.b6 * c.b6 := by
  unfold Cv.disc
  grind
theorem Cv.nums_b8 (c : Cv) : c.b8 = c.a1 * c.a1 * c.a6 + 4 * c.a2 * c.a6 - c.a1 * c.a3 * c.a4 + c.a2 * c.a3 * c.a3 - c.a4 * c.a4 := rfl
def sp_law_numbers (K : PySem.W.Frag) : Sp := fun vs H Q _ => ∃ (p : Addr) (c : Cv), vs = [.ref p] ∧ SqT K H p c.tup ∧ c.Md ∧ ∀ t, H t = none → Q (.ref t) (upd H t (.tup c.nums))
abbrev s__law_numbers : Stmt := topS 64
theorem sc__law_numbers : FnScope ["five_v", "a", "b", "c", "d", "e", "two", "four", "six", "eight", "c4", "c6", "disc"] ["five_v"] (defScope s__law_numbers) := ⟨rfl, rfl, rfl, by decide +kernel, rfl, by decide +kernel, by decide +kernel⟩
theorem k_law_numbers (T : Tx K mg) (D : Df K mg "_law_numbers" s__law_numbers ["five_v"])  : Kl P w K mg base 1 "_law_numbers" (sp_law_numbers K) := by
  have nd := sc__law_numbers.nd
  refine Kl.by_body D sc__law_numbers (fun vs H Q E h => ?_) (fun f cdv A outer s H vs Q E hr h => ?_)
  · obtain ⟨_, _, rfl, _⟩ := h
    rfl
  · obtain ⟨p, c, rfl, hx, hm, q⟩ := h
    have hu1 := hu_of hr
    refine ⟨_, (pss_cons (ps_asg (pv 0) (pg_tup rfl (pgs_cons (pg_name (i := 1) nd rfl (by first | exact Or.inl rfl | exact Or.inr rfl)) (pgs_cons (pg_name (i := 2) nd rfl (by first | exact Or.inl rfl | exact Or.inr rfl)) (pgs_cons (pg_name (i := 3) nd rfl (by first | exact Or.inl rfl | exact Or.inr rfl)) (pgs_cons (pg_name (i := 4) nd rfl (by first | exact Or.inl rfl | exact Or.inr rfl)) (pgs_cons (pg_name (i := 5) nd rfl (by first | exact Or.inl rfl | exact Or.inr rfl)) pgs_nil)))))))
      (pss_cons (ps_par (i := 6) (j := 7) (by rfl) nd rfl rfl (by decide) rfl rfl (pa_cons (pe_op op_add (pe_op op_mulW (pv 1) (pv 1)) (pe_op op_mul pe_int (pv 2))) (pa_cons (pe_op op_add (pe_op op_mul pe_int (pv 4)) (pe_op op_mulW (pv 1) (pv 3))) pa_nil)) (by rfl))
      (pss_cons (ps_set (i := 8) nd rfl (by first | exact Or.inl rfl | exact Or.inr rfl) (pe_op op_add (pe_op op_mulW (pv 3) (pv 3)) (pe_op op_mul pe_int (pv 5))))
      (pss_cons (ps_set (i := 9) nd rfl (by first | exact Or.inl rfl | exact Or.inr rfl) (pe_op op_sub (pe_op op_add (pe_op op_mulW (pe_op op_mulW (pv 1) (pv 1)) (pv 5)) (pe_op op_mulW (pe_op op_mul pe_int (pv 2)) (pv 5))) (pe_op op_mulW (pe_op op_mulW (pv 1) (pv 3)) (pv 4))))
      (pss_cons (ps_set (i := 9) nd rfl (by first | exact Or.inl rfl | exact Or.inr rfl) (pe_op op_sub (pe_op op_add (pv 9) (pe_op op_mulW (pe_op op_mulW (pv 2) (pv 3)) (pv 3))) (pe_op op_mulW (pv 4) (pv 4))))
      (pss_cons (ps_par (i := 10) (j := 11) (by rfl) nd rfl rfl (by decide) rfl rfl (pa_cons (pe_op op_sub (pe_op op_mulW (pv 6) (pv 6)) (pe_op op_mul pe_int (pv 7))) (pa_cons (pe_op op_sub (pe_op op_sub (pe_op op_mulW (pe_op op_mul pe_int (pv 6)) (pv 7)) (pe_op op_pow (pv 6) pe_int)) (pe_op op_mul pe_int (pv 8))) pa_nil)) (by rfl))
      (pss_cons (ps_set (i := 12) nd rfl (by first | exact Or.inl rfl | exact Or.inr rfl) (pe_op op_sub (pe_op op_mulW (pe_op op_mulW (pe_op op_mul pe_int (pv 6)) (pv 7)) (pv 8)) (pe_op op_mulW (pe_op op_mulW (pv 6) (pv 6)) (pv 9))))
      (pss_one (ps_ret (pe_tup (pa_cons (pv 6) (pa_cons (pv 7) (pa_cons (pv 8) (pa_cons (pv 9) (pa_cons (pv 10) (pa_cons (pv 11) (pa_cons (pe_op op_sub (pe_op op_sub (pv 12) (pe_op op_mul pe_int (pe_op op_pow (pv 7) pe_int))) (pe_op op_mulW (pe_op op_mul pe_int (pv 8)) (pv 8))) pa_nil))))))))))))))))), ?_⟩
    have e2 := hm.b2
    have e4 := hm.b4
    have e6 := hm.b6
    have e8 := hm.b8
    obtain ⟨h1, h2, h3, h4, h6⟩ := hm
    have p3 : B 133 (c.b2 ^ (3 : Int).toNat) := (e2.pow 3).up (by decide)
    have p4 : B 233 (c.b4 ^ (3 : Int).toNat) := (e4.pow 3).up (by decide)
    refine ⟨.ref p, rfl, p, _, rfl, hx, rfl, _, _, rfl, _, _, rfl, _, _, rfl, _, _, rfl, _, _, rfl, rfl, ?_⟩
    first | refine sigN [some (.ref p), some (.int (c.a1)), some (.int (c.a2)), some (.int (c.a3)), some (.int (c.a4)), some (.int (c.a6)), none, none, none, none, none, none, none] (by rfl) ?_ | refine sig [some (.ref p), some (.int (c.a1)), some (.int (c.a2)), some (.int (c.a3)), some (.int (c.a4)), some (.int (c.a6)), none, none, none, none, none, none, none] (by rfl) ?_
    refine ⟨_, rfl, _, rfl, _, _, rfl, rfl, (by walk_at "bnd"), _, rfl, _, _, rfl, rfl, (Or.inl ⟨by decide, by decide⟩), _, _, rfl, rfl, _, rfl, _, _, rfl, rfl, (Or.inl ⟨by decide, by decide⟩), _, rfl, _, rfl, _, _, rfl, rfl, (by walk_at "bnd"), _, _, rfl, rfl, _, _, rfl, ?_⟩
    first | refine sigN [some (.ref p), some (.int (c.a1)), some (.int (c.a2)), some (.int (c.a3)), some (.int (c.a4)), some (.int (c.a6)), some (.int (c.b2)), some (.int (c.b4)), none, none, none, none, none] (by rfl) ?_ | refine sig [some (.ref p), some (.int (c.a1)), some (.int (c.a2)), some (.int (c.a3)), some (.int (c.a4)), some (.int (c.a6)), some (.int (c.b2)), some (.int (c.b4)), none, none, none, none, none] (by rfl) ?_
    refine ⟨_, rfl, _, rfl, _, _, rfl, rfl, (by walk_at "bnd"), _, rfl, _, _, rfl, rfl, (Or.inl ⟨by decide, by decide⟩), _, _, rfl, rfl, ?_⟩
    first | refine sigN [some (.ref p), some (.int (c.a1)), some (.int (c.a2)), some (.int (c.a3)), some (.int (c.a4)), some (.int (c.a6)), some (.int (c.b2)), some (.int (c.b4)), some (.int (c.b6)), none, none, none, none] (by rfl) ?_ | refine sig [some (.ref p), some (.int (c.a1)), some (.int (c.a2)), some (.int (c.a3)), some (.int (c.a4)), some (.int (c.a6)), some (.int (c.b2)), some (.int (c.b4)), some (.int (c.b6)), none, none, none, none] (by rfl) ?_
    refine ⟨_, rfl, _, rfl, _, _, rfl, rfl, (by walk_at "bnd"), _, rfl, _, _, rfl, rfl, (by walk_at "bnd"), _, rfl, _, _, rfl, rfl, (Or.inl ⟨by decide, by decide⟩), _, rfl, _, _, rfl, rfl, (by walk_at "bnd"), _, _, rfl, rfl, _, rfl, _, rfl, _, _, rfl, rfl, (by walk_at "bnd"), _, rfl, _, _, rfl, rfl, (by walk_at "bnd"), _, _, rfl, rfl, ?_⟩
    first | refine sigN [some (.ref p), some (.int (c.a1)), some (.int (c.a2)), some (.int (c.a3)), some (.int (c.a4)), some (.int (c.a6)), some (.int (c.b2)), some (.int (c.b4)), some (.int (c.b6)), some (.int (c.a1 * c.a1 * c.a6 + 4 * c.a2 * c.a6 - c.a1 * c.a3 * c.a4)), none, none, none] (by rfl) ?_ | refine sig [some (.ref p), some (.int (c.a1)), some (.int (c.a2)), some (.int (c.a3)), some (.int (c.a4)), some (.int (c.a6)), some (.int (c.b2)), some (.int (c.b4)), some (.int (c.b6)), some (.int (c.a1 * c.a1 * c.a6 + 4 * c.a2 * c.a6 - c.a1 * c.a3 * c.a4)), none, none, none] (by rfl) ?_
    refine ⟨_, rfl, _, rfl, _, rfl, _, _, rfl, rfl, (by walk_at "bnd"), _, rfl, _, _, rfl, rfl, (by walk_at "bnd"), _, _, rfl, rfl, _, rfl, _, rfl, _, _, rfl, rfl, (by walk_at "bnd"), _, _, rfl, rfl, ?_⟩
    first | refine sigN [some (.ref p), some (.int (c.a1)), some (.int (c.a2)), some (.int (c.a3)), some (.int (c.a4)), some (.int (c.a6)), some (.int (c.b2)), some (.int (c.b4)), some (.int (c.b6)), some (.int (c.b8)), none, none, none] (by rfl) ?_ | refine sig [some (.ref p), some (.int (c.a1)), some (.int (c.a2)), some (.int (c.a3)), some (.int (c.a4)), some (.int (c.a6)), some (.int (c.b2)), some (.int (c.b4)), some (.int (c.b6)), some (.int (c.b8)), none, none, none] (by rfl) ?_
    refine ⟨_, rfl, _, rfl, _, _, rfl, rfl, (by walk_at "bnd"), _, rfl, _, _, rfl, rfl, (Or.inl ⟨by decide, by decide⟩), _, _, rfl, rfl, _, rfl, _, _, rfl, rfl, (Or.inl ⟨by decide, by decide⟩), _, rfl, _, _, rfl, rfl, (by walk_at "bnd"), _, rfl, _, _, rfl, rfl, ⟨by decide, by decide, by walk_at "pw"⟩, _, _, rfl, rfl, _, rfl, _, _, rfl, rfl, (Or.inl ⟨by decide, by decide⟩), _, _, rfl, rfl, _, _, rfl, ?_⟩
    first | refine sigN [some (.ref p), some (.int (c.a1)), some (.int (c.a2)), some (.int (c.a3)), some (.int (c.a4)), some (.int (c.a6)), some (.int (c.b2)), some (.int (c.b4)), some (.int (c.b6)), some (.int (c.b8)), some (.int (c.c4)), some (.int (36 * c.b2 * c.b4 - c.b2 ^ 3 - 216 * c.b6)), none] (by rfl) ?_ | refine sig [some (.ref p), some (.int (c.a1)), some (.int (c.a2)), some (.int (c.a3)), some (.int (c.a4)), some (.int (c.a6)), some (.int (c.b2)), some (.int (c.b4)), some (.int (c.b6)), some (.int (c.b8)), some (.int (c.c4)), some (.int (36 * c.b2 * c.b4 - c.b2 ^ 3 - 216 * c.b6)), none] (by rfl) ?_
    refine ⟨_, rfl, _, _, rfl, rfl, (Or.inl ⟨by decide, by decide⟩), _, rfl, _, _, rfl, rfl, (by walk_at "bnd"), _, rfl, _, _, rfl, rfl, (by walk_at "bnd"), _, rfl, _, rfl, _, _, rfl, rfl, (by walk_at "bnd"), _, rfl, _, _, rfl, rfl, (by walk_at "bnd"), _, _, rfl, rfl, ?_⟩
    first | refine sigN [some (.ref p), some (.int (c.a1)), some (.int (c.a2)), some (.int (c.a3)), some (.int (c.a4)), some (.int (c.a6)), some (.int (c.b2)), some (.int (c.b4)), some (.int (c.b6)), some (.int (c.b8)), some (.int (c.c4)), some (.int (36 * c.b2 * c.b4 - c.b2 ^ 3 - 216 * c.b6)), some (.int (9 * c.b2 * c.b4 * c.b6 - c.b2 * c.b2 * c.b8))] (by rfl) ?_ | refine sig [some (.ref p), some (.int (c.a1)), some (.int (c.a2)), some (.int (c.a3)), some (.int (c.a4)), some (.int (c.a6)), some (.int (c.b2)), some (.int (c.b4)), some (.int (c.b6)), some (.int (c.b8)), some (.int (c.c4)), some (.int (36 * c.b2 * c.b4 - c.b2 ^ 3 - 216 * c.b6)), some (.int (9 * c.b2 * c.b4 * c.b6 - c.b2 * c.b2 * c.b8))] (by rfl) ?_
    refine ⟨_, rfl, _, rfl, _, rfl, _, rfl, _, rfl, _, rfl, _, rfl, _, rfl, _, _, rfl, rfl, ⟨by decide, by decide, by walk_at "pw"⟩, _, _, rfl, rfl, (Or.inl ⟨by decide, by decide⟩), _, _, rfl, rfl, _, rfl, _, _, rfl, rfl, (Or.inl ⟨by decide, by decide⟩), _, rfl, _, _, rfl, rfl, (by walk_at "bnd"), _, _, rfl, rfl, (by show 7 ≤ sizeLine; decide), fun t nt => ?_⟩
    have e : c.nums = [V.int c.b2, V.int c.b4, V.int c.b6, V.int c.b8, V.int c.c4, V.int (36 * c.b2 * c.b4 - c.b2 ^ 3 - 216 * c.b6), V.int (9 * c.b2 * c.b4 * c.b6 - c.b2 * c.b2 * c.b8 - 8 * c.b4 ^ 3 - 27 * c.b6 * c.b6)] := by
      rw [← Cv.nums_c6, ← Cv.nums_d]
      rfl
    rw [e] at q
    exact q t nt
end
end K13
set_option Elab.async false
set_option linter.all false
set_option maxRecDepth 100000
set_option maxHeartbeats 4000000
namespace K13
open PySem PySem.Spec PyProof.Rows L2 Gd QM
section
variable {P : Program} {w : World} {K : PySem.W.Frag} {mg : Str → Option Value} {base : Heap}
/-! ### one draw -/
def sp_law_draw (K : PySem.W.Frag) : Sp := fun vs H Q _ => ∃ (m cl : Addr) (b : Int) (n : Nat), vs = [.ref m, .int b] ∧ 0 < b ∧ b < 4294967296 ∧ n ≤ 1000000 ∧ MAt H m cl n ∧ ∀ H' r, But m H H' → MAt H' m cl (n + 1) → 0 ≤ r → r < b → Q (.int r) H'
abbrev s__law_draw : Stmt := topS 55
theorem sc__law_draw : FnScope ["m", "below", "found", "spot", "cells", "extra", "cell", "blend"] ["m", "below"] (defScope s__law_draw) := ⟨rfl, rfl, rfl, by decide +kernel, rfl, by decide +kernel, by decide +kernel⟩
theorem k_law_draw (T : Tx K mg) (D : Df K mg "_law_draw" s__law_draw ["m", "below"])  : Kl P w K mg base 1 "_law_draw" (sp_law_draw K) := by
  have nd := sc__law_draw.nd
  refine Kl.by_body D sc__law_draw (fun vs H Q E h => ?_) (fun f cdv A outer s H vs Q E hr h => ?_)
  · obtain ⟨_, _, _, _, rfl, _⟩ := h
    rfl
  · obtain ⟨m, c, b, n, rfl, hb0, hb1, hn, ⟨L, s0, cs, k, hm, hk, hc, hl⟩, q⟩ := h
    have hu1 := hu_of hr
    refine ⟨_, (pss_cons (ps_if (pt_cmpR op_gt (pe_dget hu1 (pv 0) pe_str (fun _ _ => rfl)) pe_int (nomark _)) (pss_cons (ps_set (i := 2) nd rfl (by first | exact Or.inl rfl | exact Or.inr rfl) (pe_op op_mod (pe_callTy call_intI (by rfl) T.int (by decide +kernel) (pa_cons (pe_dget hu1 (pv 0) pe_str (fun _ _ => rfl)) pa_nil)) (pv 1)))
      (pss_cons (ps_dput hu1 (pv 0) pe_str (pe_op op_fdivAny (pe_dget hu1 (pv 0) pe_str (fun _ _ => rfl)) (pv 1)) rfl)
      (pss_one (ps_ret (pv 2))))) pss_nil)
      (pss_cons (ps_set (i := 3) nd rfl (by first | exact Or.inl rfl | exact Or.inr rfl) (pe_dget hu1 (pv 0) pe_str (fun _ _ => rfl)))
      (pss_cons (ps_dput hu1 (pv 0) pe_str (pe_op op_add (pv 3) pe_int) rfl)
      (pss_cons (ps_par (i := 4) (j := 5) (by rfl) nd rfl rfl (by decide) rfl rfl (pa_cons (pe_dget hu1 (pv 0) pe_str (fun _ _ => rfl)) (pa_cons (pe_op op_add (pe_dget hu1 (pv 0) pe_str (fun _ _ => rfl)) (pe_op op_mulW (pe_op op_mul pe_int (pv 3)) (pv 3))) pa_nil)) (by rfl))
      (pss_cons (ps_set (i := 6) nd rfl (by first | exact Or.inl rfl | exact Or.inr rfl) (pe_ix ix_list (pv 4) (pe_op op_mod (pe_callTy call_intI (by rfl) T.int (by decide +kernel) (pa_cons (pv 3) pa_nil)) (pe_callB call_len_seq (by rfl) T.len (by decide +kernel) (pa_cons (pv 4) pa_nil))) (fun _ _ => rfl)))
      (pss_cons (ps_set (i := 7) nd rfl (by first | exact Or.inl rfl | exact Or.inr rfl) (pe_op op_mod (pe_callTy call_intI (by rfl) T.int (by decide +kernel) (pa_cons (pe_op op_add (pe_op op_mul (pv 6) (pe_op op_add (pe_op op_mul pe_int (pv 3)) pe_int)) (pv 5)) pa_nil)) pe_int))
      (pss_cons (ps_set (i := 7) nd rfl (by first | exact Or.inl rfl | exact Or.inr rfl) (pe_op op_mod (pe_callTy call_intI (by rfl) T.int (by decide +kernel) (pa_cons (pe_op op_add (pe_op op_add (pe_op op_mul (pv 7) (pv 7)) (pe_op op_mul pe_int (pv 3))) (pe_dget hu1 (pv 0) pe_str (fun _ _ => rfl))) pa_nil)) pe_int))
      (pss_one (ps_ret (pe_op op_mod (pe_op op_fdiv (pe_op op_mod (pe_callTy call_intI (by rfl) T.int (by decide +kernel) (pa_cons (pe_op op_add (pe_op op_mul (pv 7) pe_int) (pv 3)) pa_nil)) pe_int) pe_int) (pv 1))))))))))), ?_⟩
    have gL : DGet H m (.str "left") (some (.int L)) := m4_left (L := L) ▸ DGet.k (k := Sum.inr "left") hm
    have ncm : c ≠ m := ne_of hc hm (by intro z; cases z)
    refine ⟨_, rfl, m, _, rfl, gL, _, _, rfl, rfl, _, rfl, ite2 (fun e => ?_) (fun e => ?_)⟩
    · refine ⟨_, rfl, m, _, rfl, gL, _, rfl, _, rfl, _, _, rfl, rfl, hb0, ?_⟩
      refine ⟨_, rfl, m, _, rfl, gL, _, rfl, _, _, rfl, rfl, div_any (m := 33) (by omega) (by unfold B; omega) (by decide), _, rfl, m, _, rfl, DPut.k (k := Sum.inr "left") hm (small1000 (by show 4 ≤ 1000; decide)), ?_⟩
      rw [m4_putL]
      refine ⟨_, rfl, ?_⟩
      refine q _ _ But.upd ⟨_, s0, cs, k, upd_same, by omega, ?_, hl⟩ (Int.emod_nonneg _ (by omega)) (Int.emod_lt_of_pos _ hb0)
      rw [upd_ne ncm]
      exact hc
    · have gS : DGet H m (.str "spot") (some (.int k)) := m4_spot (n := k) ▸ DGet.k (k := Sum.inr "spot") hm
      refine ⟨_, rfl, m, _, rfl, gS, ?_⟩
      refine ⟨_, rfl, _, _, rfl, rfl, _, rfl, m, _, rfl, DPut.k (k := Sum.inr "spot") hm (small1000 (by show 4 ≤ 1000; decide)), ?_⟩
      rw [m4_putS]
      have hm2 : (upd H m (HO.dK (mk4 L s0 c (k + 1)))) m = some (.dK (mk4 L s0 c (k + 1))) := upd_same
      have hc2 : (upd H m (HO.dK (mk4 L s0 c (k + 1)))) c = some (.lst (cs.map V.int)) := by
        rw [upd_ne ncm]
        exact hc
      have bt : But m H (upd H m (HO.dK (mk4 L s0 c (k + 1)))) := But.upd
      generalize upd H m (HO.dK (mk4 L s0 c (k + 1))) = H2 at hm2 hc2 bt ⊢
      have gC : DGet H2 m (.str "cells") (some (.ref c)) := m4_cells (c := c) ▸ DGet.k (k := Sum.inr "cells") hm2
      have gE : DGet H2 m (.str "seed") (some (.int s0)) := m4_seed (s := s0) ▸ DGet.k (k := Sum.inr "seed") hm2
      have bk : B 20 (k : Int) := by
        unfold B
        omega
      refine ⟨_, rfl, m, _, rfl, gC, _, rfl, m, _, rfl, gE, _, rfl, _, _, rfl, rfl, (Or.inl ⟨by decide, by decide⟩), _, rfl, _, _, rfl, rfl, ((B.lit (n := 20) (by decide)).mul bk).mulW bk (by decide), _, _, rfl, rfl, _, _, rfl, ?_⟩
      have hlz : (0 : Int) < ((cs.map V.int).length : Int) := by
        rw [List.length_map]
        omega
      have hix : ∃ z : Int, atI (cs.map V.int) ((k : Int) % ((cs.map V.int).length : Int)) = some (.int z) := by
        rw [List.length_map]
        have h1 : k % cs.length < cs.length := Nat.mod_lt _ hl
        refine ⟨cs[k % cs.length], ?_⟩
        rw [← Int.natCast_emod]
        refine atI_nat ?_
        rw [List.getElem?_map, List.getElem?_eq_getElem h1]
        rfl
      obtain ⟨z, hz⟩ := hix
      refine ⟨_, rfl, _, rfl, _, rfl, _, rfl, c, _, rfl, .inl (.inl (.inl hc2)), _, _, rfl, rfl, hlz, c, _, _, _, rfl, rfl, .inl (.inl hc2), hz, ?_⟩
      have bk2 : B 30 (2 * (k : Int) + 3) := by
        unfold B
        omega
      refine ⟨_, rfl, _, rfl, _, _, rfl, rfl, (Or.inl ⟨by decide, by decide⟩), _, _, rfl, rfl, _, _, rfl, rfl, bk2.mulR (by decide), _, rfl, _, _, rfl, rfl, _, rfl, _, _, rfl, rfl, (by show (0 : Int) < 2147483647; decide), ?_⟩
      have be : ∀ y : Int, B 32 (y % 2147483647) := fun y => by
        have h1 := Int.emod_nonneg y (show (2147483647 : Int) ≠ 0 by decide)
        have h2 := Int.emod_lt_of_pos y (show (0 : Int) < 2147483647 by decide)
        unfold B
        omega
      refine ⟨_, rfl, _, rfl, _, _, rfl, rfl, (be _).mulR (by decide), _, rfl, _, _, rfl, rfl, (Or.inl ⟨by decide, by decide⟩), _, _, rfl, rfl, _, rfl, m, _, rfl, gE, _, _, rfl, rfl, _, rfl, _, _, rfl, rfl, (by show (0 : Int) < 2147483629; decide), ?_⟩
      refine ⟨_, rfl, _, _, rfl, rfl, (Or.inr ⟨by decide, by decide⟩), _, rfl, _, _, rfl, rfl, _, rfl, _, _, rfl, rfl, (by show (0 : Int) < 2147483647; decide), _, _, rfl, rfl, ⟨by decide, by decide⟩, _, rfl, _, _, rfl, rfl, hb0, ?_⟩
      exact q _ _ bt ⟨L, s0, cs, k + 1, hm2, by omega, hc2, hl⟩ (Int.emod_nonneg _ (by omega)) (Int.emod_lt_of_pos _ hb0)
/-! ### one of some -/
def sp_law_of (K : PySem.W.Frag) : Sp := fun vs H Q _ => ∃ (m cl a : Addr) (xs : List V) (n : Nat), vs = [.ref m, .ref a] ∧ SqL K H a xs ∧ 0 < xs.length ∧ xs.length ≤ 1000 ∧ n ≤ 1000000 ∧ MAt H m cl n ∧ ∀ H' x, But m H H' → MAt H' m cl (n + 1) → x ∈ xs → Q x H'
abbrev s__law_of : Stmt := topS 56
theorem sc__law_of : FnScope ["m", "some"] ["m", "some"] (defScope s__law_of) := ⟨rfl, rfl, rfl, by decide +kernel, rfl, by decide +kernel, by decide +kernel⟩
theorem k_law_of (T : Tx K mg) (D : Df K mg "_law_of" s__law_of ["m", "some"]) (c_law_draw : Kl P w K mg base 1 "_law_draw" (sp_law_draw K)) : Kl P w K mg base 2 "_law_of" (sp_law_of K) := by
  have nd := sc__law_of.nd
  refine Kl.by_body D sc__law_of (fun vs H Q E h => ?_) (fun f cdv A outer s H vs Q E hr h => ?_)
  · obtain ⟨_, _, _, _, _, rfl, _⟩ := h
    rfl
  · obtain ⟨m, cl, a, xs, n, rfl, hx, h0, h1, hn, hM, q⟩ := h
    have hu1 := hu_of hr
    refine ⟨_, (pss_one (ps_ret (pe_ix ix_list (pv 1) (pe_k c_law_draw  hr (by decide) (by rfl) (pa_cons (pv 0) (pa_cons (pe_callB call_len_seq (by rfl) T.len (by decide +kernel) (pa_cons (pv 1) pa_nil)) pa_nil))) (fun _ _ => rfl)))), ?_⟩
    refine ⟨.ref a, rfl, _, rfl, .ref a, rfl, a, xs, rfl, .inl hx, m, cl, _, n, rfl, by omega, by omega, hn, hM, fun H1 r b1 m1 r0 r1 => ?_⟩
    have hr1 : r.toNat < xs.length := by omega
    refine ⟨a, xs, r, xs[r.toNat], rfl, rfl, b1.seqL hM hx, ?_, q _ _ b1 m1 (List.getElem_mem hr1)⟩
    have key : atI xs ((r.toNat : Nat) : Int) = some xs[r.toNat] := atI_nat (List.getElem?_eq_getElem hr1)
    rw [show ((r.toNat : Nat) : Int) = r by omega] at key
    exact key
/-! ### between -/
def sp_law_between (K : PySem.W.Frag) : Sp := fun vs H Q _ => ∃ (m cl : Addr) (z : Int) (n : Nat), vs = [.ref m, .int z] ∧ 0 ≤ z ∧ z ≤ 2000000000 ∧ n ≤ 1000000 ∧ MAt H m cl n ∧ ∀ H' r, But m H H' → MAt H' m cl (n + 1) → -z ≤ r → r ≤ z → Q (.int r) H'
abbrev s__law_between : Stmt := topS 57
theorem sc__law_between : FnScope ["m", "size"] ["m", "size"] (defScope s__law_between) := ⟨rfl, rfl, rfl, by decide +kernel, rfl, by decide +kernel, by decide +kernel⟩
theorem k_law_between (T : Tx K mg) (D : Df K mg "_law_between" s__law_between ["m", "size"]) (c_law_draw : Kl P w K mg base 1 "_law_draw" (sp_law_draw K)) : Kl P w K mg base 2 "_law_between" (sp_law_between K) := by
  have nd := sc__law_between.nd
  refine Kl.by_body D sc__law_between (fun vs H Q E h => ?_) (fun f cdv A outer s H vs Q E hr h => ?_)
  · obtain ⟨_, _, _, _, rfl, _⟩ := h
    rfl
  · obtain ⟨m, cl, z, n, rfl, h0, h1, hn, hM, q⟩ := h
    have hu1 := hu_of hr
    refine ⟨_, (pss_one (ps_ret (pe_op op_sub (pe_k c_law_draw  hr (by decide) (by rfl) (pa_cons (pv 0) (pa_cons (pe_op op_add (pe_op op_mul pe_int (pv 1)) pe_int) pa_nil))) (pv 1)))), ?_⟩
    refine ⟨_, rfl, _, rfl, _, _, rfl, rfl, (Or.inl ⟨by decide, by decide⟩), _, _, rfl, rfl, m, cl, _, n, rfl, by omega, by omega, hn, hM, fun H1 r b1 m1 r0 r1 => ?_⟩
    refine ⟨_, rfl, _, _, rfl, rfl, ?_⟩
    exact q _ _ b1 m1 (by omega) (by omega)
/-! ### the state of a turn -/
def sp_law_begun (K : PySem.W.Frag) : Sp := fun vs H Q _ => ∃ (a : Addr) (k : Int) (ns : List Int), vs = [.ref a, .int k] ∧ SqL K H a (ns.map V.int) ∧ ns.length ≤ 63 ∧ 0 ≤ k ∧ k ≤ 100 ∧ ∀ H' m cl, Same H H' → H m = none → H cl = none → MAt H' m cl 0 → Q (.ref m) H'
theorem cut_int {ns : List Int} (lo hi : Option Int) : ∃ ms : List Int, cutV (ns.map V.int) lo hi = ms.map V.int ∧ ms.length ≤ ns.length := by
  unfold cutV
  refine ⟨(ns.drop (HT.sIx (ns.map V.int).length 0 lo)).take (HT.sIx (ns.map V.int).length (ns.map V.int).length hi - HT.sIx (ns.map V.int).length 0 lo), ?_, ?_⟩
  · rw [List.map_take, List.map_drop]
  · rw [List.length_take, List.length_drop]
    omega
abbrev s__law_begun : Stmt := topS 54
theorem sc__law_begun : FnScope ["script", "k", "cells", "great", "cell", "begun", "left"] ["script", "k"] (defScope s__law_begun) := ⟨rfl, rfl, rfl, by decide +kernel, rfl, by decide +kernel, by decide +kernel⟩
theorem k_law_begun (T : Tx K mg) (D : Df K mg "_law_begun" s__law_begun ["script", "k"])  : Kl P w K mg base 1 "_law_begun" (sp_law_begun K) := by
  have nd := sc__law_begun.nd
  refine Kl.by_body D sc__law_begun (fun vs H Q E h => ?_) (fun f cdv A outer s H vs Q E hr h => ?_)
  · obtain ⟨_, _, _, rfl, _⟩ := h
    rfl
  · obtain ⟨a, k, ns, rfl, hx, hl, hk0, hk1, q⟩ := h
    have hu1 := hu_of hr
    refine ⟨_, (pss_cons (ps_set (i := 2) nd rfl (by first | exact Or.inl rfl | exact Or.inr rfl) (pe_op op_cat (pe_slice sl_list (pv 0) (po_some (pv 1)) po_none) (pe_slice sl_list (pv 0) po_none (po_some (pv 1)))))
      (pss_cons (ps_setLc (i := 3) (own := [("cell", 4)]) (g := gName 4) rfl nd rfl rfl (sw_true rfl rfl rfl (by decide +kernel)) (pi_list (pv 0)) (blkOk_by (N := ["script", "k", "cells", "great", "cell", "begun", "left"]) (sc := defScope s__law_begun) (by decide +kernel)) (fun _ _ _ _ _ => (pg_name (i := 4) nd rfl (by first | exact Or.inl rfl | exact Or.inr rfl))) (fun _ _ _ _ _ => (pts_one (pt_cmpR op_ge (pv 4) (pe_op op_pow pe_int pe_int) (nomark _)))) (fun _ _ _ _ _ => (pv 4)))
      (pss_cons (ps_set (i := 5) nd rfl (by first | exact Or.inl rfl | exact Or.inr rfl) (pe_op op_add pe_int (pe_op op_mul pe_int (pv 1))))
      (pss_cons (ps_for PassesOwn.never rfl (pi_list (pv 2)) (pg_name (i := 4) nd rfl (by first | exact Or.inl rfl | exact Or.inr rfl)) (pss_one (ps_set (i := 5) nd rfl (by first | exact Or.inl rfl | exact Or.inr rfl) (pe_op op_mod (pe_callTy call_intI (by rfl) T.int (by decide +kernel) (pa_cons (pe_op op_add (pe_op op_mul (pv 5) pe_int) (pv 4)) pa_nil)) pe_int))))
      (pss_cons (ps_set (i := 6) nd rfl (by first | exact Or.inl rfl | exact Or.inr rfl) (pe_ifExp (pt_cmpR op_lt (pv 1) (pe_callB call_len_seq (by rfl) T.len (by decide +kernel) (pa_cons (pv 3) pa_nil)) (nomark _)) (pe_ix ix_list (pv 3) (pv 1) (fun _ _ => rfl)) pe_int))
      (pss_one (ps_ret (pe_disp (pps_cons pe_str (pv 6) (pps_cons pe_str (pv 5) (pps_cons pe_str (pe_op op_cat (pv 2) (pe_lst (pa_cons (pe_op op_add (pe_op op_mul pe_int (pv 1)) pe_int) pa_nil))) (pps_cons pe_str pe_int pps_nil)))) (by rfl) (by rfl) (fun z => by cases z) (by decide))))))))), ?_⟩
    obtain ⟨m1, e1, l1⟩ := cut_int (ns := ns) (some k) none
    obtain ⟨m2, e2, l2⟩ := cut_int (ns := ns) none (some k)
    refine ⟨.ref a, rfl, _, rfl, k, rfl, a, _, rfl, hx, fun p1 n1 => ?_⟩
    rw [e1]
    have s1 : Same H (upd H p1 (.lst (m1.map V.int))) := Same.new n1
    have g1 : (upd H p1 (.lst (m1.map V.int))) p1 = some (.lst (m1.map V.int)) := upd_same
    generalize upd H p1 (.lst (m1.map V.int)) = H1 at s1 g1 ⊢
    refine ⟨.ref a, rfl, _, rfl, k, rfl, a, _, rfl, s1.seq hx, fun p2 n2 => ?_⟩
    rw [e2]
    have s2 : Same H1 (upd H1 p2 (.lst (m2.map V.int))) := Same.new n2
    have g2 : (upd H1 p2 (.lst (m2.map V.int))) p2 = some (.lst (m2.map V.int)) := upd_same
    generalize upd H1 p2 (.lst (m2.map V.int)) = H2 at s2 g2 ⊢
    refine ⟨p1, p2, _, _, rfl, rfl, s2 _ _ g1, g2, ?_, fun p3 n3 => ?_⟩
    · rw [List.length_map, List.length_map]
      exact small (by omega)
    rw [← List.map_append]
    have s3 : Same H2 (upd H2 p3 (.lst ((m1 ++ m2).map V.int))) := Same.new n3
    have g3 : (upd H2 p3 (.lst ((m1 ++ m2).map V.int))) p3 = some (.lst ((m1 ++ m2).map V.int)) := upd_same
    have hl3 : (m1 ++ m2).length ≤ 126 := by
      rw [List.length_append]
      omega
    generalize m1 ++ m2 = cs at s3 g3 hl3 ⊢
    generalize upd H2 p3 (.lst (cs.map V.int)) = H3 at s3 g3 ⊢
    have sA : Same H H3 := (s1.trans s2).trans s3
    clear s1 s2 s3 g1 g2
    first | refine sigN [some (.ref a), some (.int (k)), some (V.ref p3), none, none, none, none] (by rfl) ?_ | refine sig [some (.ref a), some (.int (k)), some (V.ref p3), none, none, none, none] (by rfl) ?_
    refine ⟨.ref a, rfl, a, rfl, ⟨_, sA.seq hx⟩, fun D hD => ?_⟩
    refine lc_list (K := K) (a := a) (xs := ns.map V.int) (fun i H4 => Same H3 H4 ∧ ∃ gs : List Int, H4 D = some (.lst (gs.map V.int)) ∧ gs.length ≤ i) ⟨Same.new hD, [], upd_same, Nat.le_refl _⟩ (fun i H4 _ z => (sA.trans z.1).seq hx) (fun i x H4 hi z => ?_) (fun H4 z => ?_)
    · obtain ⟨s4, gs, g4, l4⟩ := z
      obtain ⟨y, rfl⟩ : ∃ y : Int, x = .int y := by
        rw [List.getElem?_map] at hi
        cases e : ns[i]? with
        | none =>
          rw [e] at hi
          cases hi
        | some y =>
          rw [e] at hi
          exact ⟨y, (Option.some.inj hi).symm⟩
      have hi2 : i < ns.length := by
        have h1 := (List.getElem?_eq_some_iff.mp hi).1
        rw [List.length_map] at h1
        exact h1
      refine ⟨rfl, _, rfl, _, _, rfl, rfl, ⟨by decide, by decide, by decide⟩, _, _, rfl, rfl, _, rfl, ite2 (fun _ => ?_) (fun _ => ?_)⟩
      · refine ⟨_, rfl, _, g4, ?_, Same.put s4 hD, gs ++ [y], ?_, ?_⟩
        · rw [List.length_map]
          exact small1000 (by omega)
        · rw [upd_same, List.map_append]
          rfl
        · rw [List.length_append]
          exact Nat.add_le_add_right l4 1
      · exact ⟨s4, gs, g4, Nat.le_succ_of_le l4⟩
    · obtain ⟨s4, gs, g4, l4⟩ := z
      have sB : Same H H4 := sA.trans s4
      have g3' := s4 _ _ g3
      refine ⟨_, rfl, _, _, rfl, rfl, (Or.inl ⟨by decide, by decide⟩), _, _, rfl, rfl, ?_⟩
      first | refine sigN [some (.ref a), some (.int (k)), some (V.ref p3), some (V.ref D), none, some (.int (61 + 9 * k)), none] (by rfl) ?_ | refine sig [some (.ref a), some (.int (k)), some (V.ref p3), some (V.ref D), none, some (.int (61 + 9 * k)), none] (by rfl) ?_
      refine ⟨_, rfl, p3, rfl, ⟨_, .inl (.inl g3')⟩, for_list (K := K) (a := p3) (xs := cs.map V.int) (fun i σ H5 => H5 = H4 ∧ ∃ (y : Int) (v : Option V), σ = [some (.ref a), some (.int k), some (.ref p3), some (.ref D), v, some (.int y), none]) ⟨rfl, _, none, rfl⟩ (fun i σ H5 _ z => by rw [z.1]; exact .inl (.inl g3')) ?_ ?_⟩
      · rintro i x σ H5 hi ⟨rfl, y, v, rfl⟩
        obtain ⟨t, rfl⟩ : ∃ t : Int, x = .int t := by
          rw [List.getElem?_map] at hi
          cases e : cs[i]? with
          | none =>
            rw [e] at hi
            cases hi
          | some t =>
            rw [e] at hi
            exact ⟨t, (Option.some.inj hi).symm⟩
        refine ⟨_, rfl, _, _, rfl, rfl, (Or.inr ⟨by decide, by decide⟩), _, rfl, _, _, rfl, rfl, _, rfl, _, _, rfl, rfl, (by show (0 : Int) < 2147483647; decide), ?_⟩
        exact ⟨rfl, _, _, rfl⟩
      · rintro σ H5 ⟨rfl, y, v, rfl⟩
        refine ⟨_, rfl, _, rfl, D, _, rfl, .inl (.inl (.inl g4)), _, _, rfl, rfl, _, rfl, ite2 (fun e => ?A) (fun e => ?B)⟩
        case' A =>
          have e' : k < ((gs.map V.int).length : Int) := of_decide_eq_true e
          rw [List.length_map] at e'
          have hk2 : k.toNat < gs.length := by omega
          have hz : atI (gs.map V.int) k = some (.int gs[k.toNat]) := by
            have key : atI (gs.map V.int) ((k.toNat : Nat) : Int) = some (.int gs[k.toNat]) := atI_nat (by
              rw [List.getElem?_map, List.getElem?_eq_getElem hk2]
              rfl)
            rw [show ((k.toNat : Nat) : Int) = k by omega] at key
            exact key
          refine ⟨_, rfl, _, rfl, D, _, _, _, rfl, rfl, .inl (.inl g4), hz, ?_⟩
        all_goals
          intro m nm
          have h3m : p3 ≠ m := ne_of_none g3' nm
          refine ⟨_, rfl, _, rfl, _, rfl, _, rfl, _, _, rfl, rfl, (Or.inl ⟨by decide, by decide⟩), _, _, rfl, rfl, (by show 1 ≤ sizeLine; decide), fun l nl => ?_⟩
          have nml : m ≠ l := ne_of_none upd_same nl
          have nl0 : H5 l = none := Same.free (Same.new nm) nl
          refine ⟨p3, l, cs.map V.int, [V.int (47 * k + 19)], rfl, rfl, ?_, upd_same, ?_, fun u nu => ?_⟩
          · rw [upd_ne (ne_of_none g3' nl0), upd_ne h3m]
            exact g3'
          · rw [List.length_map]
            exact small (by show cs.length + 1 ≤ 1000; omega)
          have nmu : m ≠ u := ne_of_none (by rw [upd_ne nml]; exact upd_same) nu
          have nu0 : H5 u = none := Same.free (Same.put (Same.new nm) nl0) nu
          refine ⟨?_, mk4 _ y u 0, rfl, (by show 4 ≤ 15; decide), ?_⟩
          · rw [upd_ne nmu, upd_ne nml]
            exact upd_same
          rw [m4_merge]
          have hm0 : H m = none := Same.free sB nm
          have hl0 : H l = none := Same.free sB nl0
          have hu0 : H u = none := Same.free sB nu0
          refine q _ m u (Same.put (Same.put (Same.put (Same.put sB hm0) hl0) hu0) hm0) hm0 hu0 ⟨_, y, cs ++ [47 * k + 19], 0, upd_same, Nat.le_refl _, ?_, ?_⟩
          · rw [upd_ne (fun z => nmu z.symm), upd_same, List.map_append]
            rfl
          · rw [List.length_append]
            exact Nat.lt_of_lt_of_le (by decide : 0 < 1) (Nat.le_add_left _ _)
end
end K13
set_option Elab.async false
set_option linter.all false
set_option maxRecDepth 100000
set_option maxHeartbeats 400000
namespace K13
open PySem PySem.Spec PyProof.Rows L2 Gd QM
/-! ### changes -/
structure Ch where
  u : Rat
  r : Rat
  s : Rat
  t : Rat
structure ChB (m : Nat) (c : Ch) : Prop where
  u0 : c.u ≠ 0
  u : RB m c.u
  r : RB m c.r
  s : RB m c.s
  t : RB m c.t
/-- a change stands there -/
def ChAt (K : PySem.W.Frag) (H : Hp) (p : Addr) (c : Ch) : Prop := ∃ pu pr ps pt, SqT K H p [.ref pu, .ref pr, .ref ps, .ref pt] ∧ SqT K H pu (fq c.u) ∧ SqT K H pr (fq c.r) ∧ SqT K H ps (fq c.s) ∧ SqT K H pt (fq c.t)
theorem ChAt.same {K : PySem.W.Frag} {H H' : Hp} {p : Addr} {c : Ch} (s : Same H H') (h : ChAt K H p c) : ChAt K H' p c := by
  obtain ⟨a, b, d, e, h1, h2, h3, h4, h5⟩ := h
  exact ⟨a, b, d, e, Same.tup s h1, Same.tup s h2, Same.tup s h3, Same.tup s h4, Same.tup s h5⟩
theorem ChAt.but {K : PySem.W.Frag} {m cl : Addr} {n : Nat} {H H' : Hp} {p : Addr} {c : Ch} (s : But m H H') (hM : MAt H m cl n) (h : ChAt K H p c) : ChAt K H' p c := by
  obtain ⟨a, b, d, e, h1, h2, h3, h4, h5⟩ := h
  exact ⟨a, b, d, e, s.seqT hM h1, s.seqT hM h2, s.seqT hM h3, s.seqT hM h4, s.seqT hM h5⟩
def l1 (c : Ch) (a1 : Rat) : Rat := (a1 + 2 * c.s) / c.u
def l2 (c : Ch) (a1 a2 : Rat) : Rat := (a2 - c.s * a1 + 3 * c.r - c.s * c.s) / (c.u * c.u)
def l3 (c : Ch) (a1 a3 : Rat) : Rat := (a3 + c.r * a1 + 2 * c.t) / (c.u * c.u * c.u)
def l4 (c : Ch) (a1 a2 a3 a4 : Rat) : Rat := (a4 - c.s * a3 + 2 * c.r * a2 - (c.t + c.r * c.s) * a1 + 3 * c.r * c.r - 2 * c.s * c.t) / (c.u * c.u * (c.u * c.u))
def l6 (c : Ch) (a1 a2 a3 a4 a6 : Rat) : Rat := (a6 + c.r * a4 + c.r * c.r * a2 + c.r * c.r * c.r - c.t * a3 - c.t * c.t - c.r * c.t * a1) / (c.u * c.u * c.u * (c.u * c.u * c.u))
def Cv.ints (c : Cv) : List Int := [c.a1, c.a2, c.a3, c.a4, c.a6]
theorem Cv.tup_ints (c : Cv) : c.tup = c.ints.map V.int := rfl
structure CvB (m : Nat) (c : Cv) : Prop where
  h1 : B m c.a1
  h2 : B m c.a2
  h3 : B m c.a3
  h4 : B m c.a4
  h6 : B m c.a6
theorem FrE.ren {K : PySem.W.Frag} {H : Hp} {es : List (Addr × Rat × Nat)} {p : Addr} {a b : Rat} {m : Nat} (h : FrE K H ((p, a, m) :: es)) (e : a = b) : FrE K H ((p, b, m) :: es) := e ▸ h
section
variable {P : Program} {w : World} {K : PySem.W.Frag} {mg : Str → Option Value} {base : Heap}
local macro_rules | `(tactic| walk_at "mm") => `(tactic| (repeat (first | exact List.mem_cons_self | apply List.mem_cons_of_mem)))
theorem rb_two : RB 2 (2 : Rat) := ⟨by decide, by decide⟩
theorem rb_three : RB 2 (3 : Rat) := ⟨by decide, by decide⟩
theorem rb_m1 : RB 1 (-1 : Rat) := ⟨by decide, by decide⟩
theorem rb_m2 : RB 2 (-2 : Rat) := ⟨by decide, by decide⟩
theorem fq_2 : [V.int 2, V.int 1] = fq 2 := rfl
theorem fq_3 : [V.int 3, V.int 1] = fq 3 := rfl
theorem fq_m1 : [V.int (-1), V.int 1] = fq (-1) := rfl
theorem fq_m2 : [V.int (-2), V.int 1] = fq (-2) := rfl
theorem qmul_ne {a b : Rat} (h : a ≠ 0) (k : b ≠ 0) : a * b ≠ 0 := fun e => by
  rcases Rat.mul_eq_zero.mp e with e | e
  · exact h e
  · exact k e
theorem sq_eq {K : PySem.W.Frag} {H : Hp} {p : Addr} {a b : Rat} (h : SqT K H p (fq a)) (e : a = b) : SqT K H p (fq b) := e ▸ h
/-- five fractions that a change leads to -/
def LedAt (K : PySem.W.Frag) (H : Hp) (t : Addr) (c : Ch) (v : Cv) : Prop := ∃ p1 p2 p3 p4 p6, H t = some (.tup [.ref p1, .ref p2, .ref p3, .ref p4, .ref p6]) ∧ SqT K H p1 (fq (l1 c v.a1)) ∧ SqT K H p2 (fq (l2 c v.a1 v.a2)) ∧ SqT K H p3 (fq (l3 c v.a1 v.a3)) ∧ SqT K H p4 (fq (l4 c v.a1 v.a2 v.a3 v.a4)) ∧ SqT K H p6 (fq (l6 c v.a1 v.a2 v.a3 v.a4 v.a6))
theorem LedAt.same {H H' : Hp} {t : Addr} {c : Ch} {v : Cv} (s : Same H H') (h : LedAt K H t c v) : LedAt K H' t c v := by
  obtain ⟨a, b, d, e, f, h1, h2, h3, h4, h5, h6⟩ := h
  exact ⟨a, b, d, e, f, s _ _ h1, Same.tup s h2, Same.tup s h3, Same.tup s h4, Same.tup s h5, Same.tup s h6⟩
def sp_led (K : PySem.W.Frag) : Sp := fun vs H Q _ => ∃ (p o : Addr) (c : Cv) (d : Ch), vs = [.ref p, .ref o] ∧ SqT K H p c.tup ∧ CvB 97 c ∧ ChAt K H o d ∧ ChB 29 d ∧ ∀ H' t, Same H H' → LedAt K H' t d c → Q (.ref t) H'
end
end K13
set_option Elab.async false
set_option linter.all false
set_option maxRecDepth 100000
set_option maxHeartbeats 400000
namespace K13
open PySem PySem.Spec PyProof.Rows L2 Gd QM
theorem pg_tupK {X : Cx} {K : PySem.W.Frag} {es : List Expr} {k : Nat} {t : TGs} {n : Nat} {pos : Pos} (hK : X.K = K) (hc : X.calm = true) (h : PGs X es t)
    (hn : (assignEach es X.env).length = n := by rfl) (hst : (assignEach es X.env).findIdx? (·.1) = none := by rfl) : PG X (.Tuple es k pos) (gTup K n t) := by
  subst hK
  exact pg_tup hc h hn hst
/-! ### five fractions -/
def qsL (d : Ch) (c : Cv) : List Rat := [l1 d c.a1, l2 d c.a1 c.a2, l3 d c.a1 c.a3, l4 d c.a1 c.a2 c.a3 c.a4, l6 d c.a1 c.a2 c.a3 c.a4 c.a6]
/-- refs at fractions -/
def RfAt (K : PySem.W.Frag) (H : Hp) (xs : List V) (qs : List Rat) : Prop := xs.length = qs.length ∧ ∀ (i : Nat) (x : V), xs[i]? = some x → ∃ a q, x = .ref a ∧ qs[i]? = some q ∧ SqT K H a (fq q)
theorem RfAt.same {K : PySem.W.Frag} {H H' : Hp} {xs : List V} {qs : List Rat} (s : Same H H') (h : RfAt K H xs qs) : RfAt K H' xs qs :=
  ⟨h.1, fun i x e => (h.2 i x e).imp fun a z => z.imp fun q y => ⟨y.1, y.2.1, Same.tup s y.2.2⟩⟩
theorem LedAt.rf {K : PySem.W.Frag} {H : Hp} {t : Addr} {d : Ch} {c : Cv} (h : LedAt K H t d c) : ∃ xs, H t = some (.tup xs) ∧ RfAt K H xs (qsL d c) := by
  obtain ⟨p1, p2, p3, p4, p6, h0, h1, h2, h3, h4, h6⟩ := h
  refine ⟨_, h0, rfl, fun i x e => ?_⟩
  match i, e with
  | 0, e =>
    obtain rfl := Option.some.inj e
    exact ⟨p1, _, rfl, rfl, h1⟩
  | 1, e =>
    obtain rfl := Option.some.inj e
    exact ⟨p2, _, rfl, rfl, h2⟩
  | 2, e =>
    obtain rfl := Option.some.inj e
    exact ⟨p3, _, rfl, rfl, h3⟩
  | 3, e =>
    obtain rfl := Option.some.inj e
    exact ⟨p4, _, rfl, rfl, h4⟩
  | 4, e =>
    obtain rfl := Option.some.inj e
    exact ⟨p6, _, rfl, rfl, h6⟩
def AllW (qs : List Rat) : Prop := ∀ q ∈ qs, q.den = 1
theorem take_map {A B : Type} (f : A → B) {qs : List A} {i : Nat} {q : A} (h : qs[i]? = some q) : (qs.take (i + 1)).map f = (qs.take i).map f ++ [f q] := by
  rw [List.take_succ, List.map_append, h]
  rfl
section
variable {P : Program} {w : World} {K : PySem.W.Frag} {mg : Str → Option Value} {base : Heap}
def sp_whole_curve (K : PySem.W.Frag) : Sp := fun vs H Q _ => ∃ (p : Addr) (xs : List V) (qs : List Rat), vs = [.ref p] ∧ SqT K H p xs ∧ RfAt K H xs qs ∧ qs.length = 5 ∧ (AllW qs → ∀ H' t, Same H H' → H' t = some (.tup (qs.map fun q => .int q.num)) → Q (.ref t) H') ∧ (¬ AllW qs → ∀ H', Same H H' → Q .non H')
end
end K13
set_option linter.all false
set_option maxRecDepth 100000
namespace K13
open PySem PySem.Spec PyProof.Rows L2 Gd QM
/-! ### the reduced curve -/
def rS (c : Cv) : Int := -(c.a1 / 2)
def rR (c : Cv) : Int := -((c.a2 - rS c * c.a1 - rS c * rS c + 1) / 3)
def rT (c : Cv) : Int := -((c.a3 + rR c * c.a1) / 2)
def moved (c : Cv) (r s t : Int) : Cv := ⟨c.a1 + 2 * s, c.a2 - s * c.a1 + 3 * r - s * s, c.a3 + r * c.a1 + 2 * t, c.a4 - s * c.a3 + 2 * r * c.a2 - (t + r * s) * c.a1 + 3 * r * r - 2 * s * t, c.a6 + r * c.a4 + r * r * c.a2 + r * r * r - t * c.a3 - t * t - r * t * c.a1⟩
def red (c : Cv) : Cv := moved c (rR c) (rS c) (rT c)
structure Rc (c : Cv) : Prop where
  h1 : c.a1 = 0 ∨ c.a1 = 1
  h2 : c.a2 = -1 ∨ c.a2 = 0 ∨ c.a2 = 1
  h3 : c.a3 = 0 ∨ c.a3 = 1
theorem red_rc (c : Cv) : Rc (red c) := by
  refine ⟨?_, ?_, ?_⟩
  · show c.a1 + 2 * rS c = 0 ∨ c.a1 + 2 * rS c = 1
    unfold rS
    omega
  · show c.a2 - rS c * c.a1 + 3 * rR c - rS c * rS c = -1 ∨ c.a2 - rS c * c.a1 + 3 * rR c - rS c * rS c = 0 ∨ c.a2 - rS c * c.a1 + 3 * rR c - rS c * rS c = 1
    unfold rR
    generalize rS c * c.a1 = x
    generalize rS c * rS c = y
    omega
  · show c.a3 + rR c * c.a1 + 2 * rT c = 0 ∨ c.a3 + rR c * c.a1 + 2 * rT c = 1
    unfold rT
    generalize rR c * c.a1 = x
    omega
theorem mv2 (c : Cv) (r s t : Int) : (moved c r s t).b2 = c.b2 + 12 * r := by
  unfold moved Cv.b2
  grind
theorem mv4 (c : Cv) (r s t : Int) : (moved c r s t).b4 = c.b4 + r * c.b2 + 6 * r * r := by
  unfold moved Cv.b4 Cv.b2
  grind
theorem mv6 (c : Cv) (r s t : Int) : (moved c r s t).b6 = c.b6 + 2 * r * c.b4 + r * r * c.b2 + 4 * r * r * r := by
  unfold moved Cv.b6 Cv.b4 Cv.b2
  grind
theorem mvc4 (c : Cv) (r s t : Int) : (moved c r s t).c4 = c.c4 := by
  unfold Cv.c4
  rw [mv2, mv4]
  grind
theorem mvc6 (c : Cv) (r s t : Int) : (moved c r s t).c6 = c.c6 := by
  unfold Cv.c6
  rw [mv2, mv4, mv6]
  grind
theorem b8_eq (c : Cv) : 4 * c.b8 = c.b2 * c.b6 - c.b4 * c.b4 := by
  unfold Cv.b8 Cv.b2 Cv.b4 Cv.b6
  grind
theorem disc_eq (c : Cv) : 1728 * c.disc = c.c4 * c.c4 * c.c4 - c.c6 * c.c6 := by
  have h := b8_eq c
  unfold Cv.disc Cv.c4 Cv.c6
  generalize c.b2 = b2 at *
  generalize c.b4 = b4 at *
  generalize c.b6 = b6 at *
  generalize c.b8 = b8 at *
  have e : b2 * b2 * b8 * 4 = b2 * b2 * (b2 * b6 - b4 * b4) := by rw [← h]; grind
  grind
theorem disc0 (c : Cv) : c.disc = 0 ↔ c.c4 * c.c4 * c.c4 = c.c6 * c.c6 := by
  have := disc_eq c
  omega
theorem red_c4 (c : Cv) : (red c).c4 = c.c4 := mvc4 _ _ _ _
theorem red_c6 (c : Cv) : (red c).c6 = c.c6 := mvc6 _ _ _ _
theorem red_d {c : Cv} (h : c.disc ≠ 0) : (red c).disc ≠ 0 := fun e => h (by
  rw [disc0] at e ⊢
  rw [red_c4, red_c6] at e
  exact e)
theorem b2_of {c : Cv} (h : Rc c) : (c.a1 = 0 ∧ c.a2 = -1 ∧ c.b2 = -4) ∨ (c.a1 = 0 ∧ c.a2 = 0 ∧ c.b2 = 0) ∨ (c.a1 = 0 ∧ c.a2 = 1 ∧ c.b2 = 4) ∨ (c.a1 = 1 ∧ c.a2 = -1 ∧ c.b2 = -3) ∨ (c.a1 = 1 ∧ c.a2 = 0 ∧ c.b2 = 1) ∨ (c.a1 = 1 ∧ c.a2 = 1 ∧ c.b2 = 5) := by
  obtain ⟨h1, h2, h3⟩ := h
  unfold Cv.b2
  rcases h1 with e | e <;> rcases h2 with f | f | f <;> rw [e, f] <;> decide
theorem c4_of (c : Cv) : c.c4 = c.b2 * c.b2 - 24 * c.b4 := rfl
theorem c6_of (c : Cv) : c.c6 = 36 * c.b2 * c.b4 - c.b2 * c.b2 * c.b2 - 216 * c.b6 := rfl
theorem uniq {c d : Cv} (hc : Rc c) (hd : Rc d) (e4 : c.c4 = d.c4) (e6 : c.c6 = d.c6) : c = d := by
  have k1 := b2_of hc
  have k2 := b2_of hd
  rw [c4_of, c4_of] at e4
  rw [c6_of, c6_of] at e6
  have f4 : c.b4 = 2 * c.a4 + c.a1 * c.a3 := rfl
  have g4 : d.b4 = 2 * d.a4 + d.a1 * d.a3 := rfl
  have f6 : c.b6 = c.a3 * c.a3 + 4 * c.a6 := rfl
  have g6 : d.b6 = d.a3 * d.a3 + 4 * d.a6 := rfl
  have h3 := hc.h3
  have l3 := hd.h3
  obtain ⟨a1, a2, a3, a4, a6⟩ := c
  obtain ⟨b1, b2, b3, b4, b6⟩ := d
  simp only [] at *
  generalize Cv.b4 ⟨a1, a2, a3, a4, a6⟩ = u4 at *
  generalize Cv.b6 ⟨a1, a2, a3, a4, a6⟩ = u6 at *
  generalize Cv.b2 ⟨a1, a2, a3, a4, a6⟩ = u2 at *
  generalize Cv.b4 ⟨b1, b2, b3, b4, b6⟩ = v4 at *
  generalize Cv.b6 ⟨b1, b2, b3, b4, b6⟩ = v6 at *
  generalize Cv.b2 ⟨b1, b2, b3, b4, b6⟩ = v2 at *
  have same : a1 = b1 ∧ a2 = b2 ∧ u2 = v2 ∧ (a1 = 0 ∨ a1 = 1) ∧ (u2 = 0 ∨ u2 = 1 ∨ u2 = 4 ∨ u2 = 5 ∨ u2 = -4 ∨ u2 = -3) := by
    rcases k1 with ⟨rfl, rfl, rfl⟩ | ⟨rfl, rfl, rfl⟩ | ⟨rfl, rfl, rfl⟩ | ⟨rfl, rfl, rfl⟩ | ⟨rfl, rfl, rfl⟩ | ⟨rfl, rfl, rfl⟩ <;> rcases k2 with ⟨rfl, rfl, rfl⟩ | ⟨rfl, rfl, rfl⟩ | ⟨rfl, rfl, rfl⟩ | ⟨rfl, rfl, rfl⟩ | ⟨rfl, rfl, rfl⟩ | ⟨rfl, rfl, rfl⟩ <;> clear e4 f4 f6 g4 g6 h3 l3 hc hd <;> omega
  obtain ⟨rfl, rfl, rfl, ha, hb⟩ := same
  clear k1 k2 hc hd
  have e44 : u4 = v4 := by omega
  subst e44
  have e66 : u6 = v6 := by
    generalize 36 * u2 * u4 = z at e6
    omega
  subst e66
  have : a3 = b3 ∧ a4 = b4 ∧ a6 = b6 := by
    rcases ha with rfl | rfl <;> rcases h3 with rfl | rfl <;> rcases l3 with rfl | rfl <;> omega
  obtain ⟨rfl, rfl, rfl⟩ := this
  rfl
/-! ### the pair's curves by trying -/
def cand (c4 c6 : Int) (k : Nat) : Cv :=
  ⟨(k : Int) / 6, (k : Int) % 3 - 1, (k : Int) / 3 - (k : Int) / 6 * 2,
    ((((k : Int) / 6 + 4 * ((k : Int) % 3 - 1)) * ((k : Int) / 6 + 4 * ((k : Int) % 3 - 1)) - c4) / 24 - (k : Int) / 6 * ((k : Int) / 3 - (k : Int) / 6 * 2)) / 2,
    ((36 * ((k : Int) / 6 + 4 * ((k : Int) % 3 - 1)) * ((((k : Int) / 6 + 4 * ((k : Int) % 3 - 1)) * ((k : Int) / 6 + 4 * ((k : Int) % 3 - 1)) - c4) / 24) - ((k : Int) / 6 + 4 * ((k : Int) % 3 - 1)) ^ 3 - c6) / 216 - ((k : Int) / 3 - (k : Int) / 6 * 2)) / 4⟩
def Fits (c4 c6 : Int) (c : Cv) : Prop := c.c4 = c4 ∧ c.c6 = c6 ∧ c.disc ≠ 0
instance (c4 c6 : Int) (c : Cv) : Decidable (Fits c4 c6 c) := inferInstanceAs (Decidable (_ ∧ _ ∧ _))
def pairN (c4 c6 : Int) (n : Nat) : List Cv := ((List.range n).filter fun k => decide (Fits c4 c6 (cand c4 c6 k))).map (cand c4 c6)
theorem pairN_yes {c4 c6 : Int} {n : Nat} (h : Fits c4 c6 (cand c4 c6 n)) : pairN c4 c6 (n + 1) = pairN c4 c6 n ++ [cand c4 c6 n] := by
  unfold pairN
  rw [List.range_succ, List.filter_append, List.map_append, List.filter_cons_of_pos (by simpa using h)]
  rfl
theorem pairN_no {c4 c6 : Int} {n : Nat} (h : ¬ Fits c4 c6 (cand c4 c6 n)) : pairN c4 c6 (n + 1) = pairN c4 c6 n := by
  unfold pairN
  rw [List.range_succ, List.filter_append, List.filter_cons_of_neg (by simpa using h), List.filter_nil, List.append_nil]
theorem pairN_len (c4 c6 : Int) : ∀ n, (pairN c4 c6 n).length ≤ n
  | 0 => Nat.le_refl _
  | n + 1 => by
    by_cases h : Fits c4 c6 (cand c4 c6 n)
    · rw [pairN_yes h, List.length_append]
      exact Nat.add_le_add_right (pairN_len c4 c6 n) 1
    · rw [pairN_no h]
      exact Nat.le_succ_of_le (pairN_len c4 c6 n)
theorem cand_rc (c4 c6 : Int) {k : Nat} (h : k < 12) : Rc (cand c4 c6 k) := by
  refine ⟨?_, ?_, ?_⟩ <;> unfold cand <;> simp only [] <;> omega
theorem cand_self {c : Cv} (h : Rc c) : ∃ k, k < 12 ∧ cand c.c4 c.c6 k = c := by
  have k1 := b2_of h
  have e4 := c4_of c
  have e6 := c6_of c
  have f4 : c.b4 = 2 * c.a4 + c.a1 * c.a3 := rfl
  have f6 : c.b6 = c.a3 * c.a3 + 4 * c.a6 := rfl
  have h3 := h.h3
  obtain ⟨a1, a2, a3, a4, a6⟩ := c
  simp only [] at *
  generalize Cv.c4 ⟨a1, a2, a3, a4, a6⟩ = c4 at *
  generalize Cv.c6 ⟨a1, a2, a3, a4, a6⟩ = c6 at *
  generalize Cv.b4 ⟨a1, a2, a3, a4, a6⟩ = u4 at *
  generalize Cv.b6 ⟨a1, a2, a3, a4, a6⟩ = u6 at *
  generalize Cv.b2 ⟨a1, a2, a3, a4, a6⟩ = u2 at *
  refine ⟨(6 * a1 + 3 * a3 + a2 + 1).toNat, ?_, ?_⟩
  · rcases k1 with ⟨rfl, rfl, rfl⟩ | ⟨rfl, rfl, rfl⟩ | ⟨rfl, rfl, rfl⟩ | ⟨rfl, rfl, rfl⟩ | ⟨rfl, rfl, rfl⟩ | ⟨rfl, rfl, rfl⟩ <;> rcases h3 with rfl | rfl <;> decide
  · clear h
    subst e4 e6 f4 f6
    rcases k1 with ⟨rfl, rfl, rfl⟩ | ⟨rfl, rfl, rfl⟩ | ⟨rfl, rfl, rfl⟩ | ⟨rfl, rfl, rfl⟩ | ⟨rfl, rfl, rfl⟩ | ⟨rfl, rfl, rfl⟩ <;> rcases h3 with rfl | rfl <;> (unfold cand; simp <;> omega)
theorem filter_range {p : Nat → Bool} : ∀ {n k : Nat}, k < n → p k = true → (∀ j, j < n → p j = true → j = k) → (List.range n).filter p = [k]
  | 0, _, h, _, _ => absurd h (Nat.not_lt_zero _)
  | n + 1, k, h, hp, hu => by
    rw [List.range_succ, List.filter_append]
    rcases Nat.lt_or_ge k n with z | z
    · rw [filter_range z hp (fun j hj hq => hu j (by omega) hq), List.filter_cons_of_neg (fun e => by
        have := hu n (by omega) e
        omega)]
      rfl
    · obtain rfl : k = n := by omega
      rw [List.filter_cons_of_pos hp]
      have : (List.range k).filter p = [] := by
        rw [List.filter_eq_nil_iff]
        intro j hj e
        have h1 := List.mem_range.mp hj
        have := hu j (by omega) e
        omega
      rw [this]
      rfl
theorem cand_inj {c4 c6 : Int} {j k : Nat} (hj : j < 12) (hk : k < 12) (h : cand c4 c6 j = cand c4 c6 k) : j = k := by
  have h1 : (cand c4 c6 j).a1 = (cand c4 c6 k).a1 := by rw [h]
  have h2 : (cand c4 c6 j).a2 = (cand c4 c6 k).a2 := by rw [h]
  have h3 : (cand c4 c6 j).a3 = (cand c4 c6 k).a3 := by rw [h]
  clear h
  unfold cand at h1 h2 h3
  simp only [] at h1 h2 h3
  omega
theorem pair_one {c : Cv} (h : Rc c) (hd : c.disc ≠ 0) : pairN c.c4 c.c6 12 = [c] := by
  obtain ⟨k, hk, e⟩ := cand_self h
  unfold pairN
  rw [filter_range hk (by simp; rw [e]; exact ⟨rfl, rfl, hd⟩) (fun j hj hq => by
    simp at hq
    obtain ⟨h4, h6, _⟩ := hq
    refine cand_inj (c4 := c.c4) (c6 := c.c6) hj hk ?_
    rw [e]
    exact uniq (cand_rc _ _ hj) h h4 h6)]
  rw [List.map_cons, e]
  rfl
theorem pair_mem {c4 c6 : Int} {c : Cv} {n : Nat} (hn : n ≤ 12) (h : c ∈ pairN c4 c6 n) : Rc c ∧ Fits c4 c6 c := by
  unfold pairN at h
  obtain ⟨k, hk, rfl⟩ := List.mem_map.mp h
  obtain ⟨h1, h2⟩ := List.mem_filter.mp hk
  have := List.mem_range.mp h1
  exact ⟨cand_rc _ _ (by omega), of_decide_eq_true h2⟩
/-! ### what the program tells -/
def ow (n d : Int) : Option Int := if n % d = 0 then some (n / d) else none
def toldL (c4 c6 : Int) : List Int → Option (Int × Int × Int)
  | [] => none
  | b :: bs => if (b + c6) % 12 = 0 then
      match ow (b * b - c4) 24 with
      | none => none
      | some b4 => match ow (36 * b * b4 - b * b * b - c6) 216 with
        | none => none
        | some b6 => some (b, b4, b6)
    else toldL c4 c6 bs
def told (c4 c6 : Int) : Option (Int × Int × Int) := toldL c4 c6 [0, 1, 4, 5, -4, -3]
def curveOf (c4 c6 : Int) : Option Cv :=
  match told c4 c6 with
  | none => none
  | some (b2, b4, b6) => if c4 * c4 * c4 = c6 * c6 then none else
    match ow (b4 - b2 % 2 * (b6 % 2)) 2 with
    | none => none
    | some a4 => match ow (b6 - b6 % 2) 4 with
      | none => none
      | some a6 => some ⟨b2 % 2, (b2 - b2 % 2) / 4, b6 % 2, a4, a6⟩
theorem ow_some {n d k : Int} (h : ow n d = some k) : n = d * k := by
  unfold ow at h
  by_cases z : n % d = 0
  · rw [if_pos z] at h
    obtain rfl := Option.some.inj h
    have := Int.mul_ediv_add_emod n d
    omega
  · rw [if_neg z] at h
    cases h
theorem ow_mul {d k : Int} (hd : d ≠ 0) : ow (d * k) d = some k := by
  unfold ow
  rw [if_pos (Int.mul_emod_right d k), Int.mul_ediv_cancel_left k hd]
theorem ow_is {n d k : Int} (hd : d ≠ 0) (h : n = d * k) : ow n d = some k := by rw [h, ow_mul hd]
theorem toldL_some {c4 c6 : Int} : ∀ {bs : List Int} {b2 b4 b6 : Int}, toldL c4 c6 bs = some (b2, b4, b6) → b2 ∈ bs ∧ b2 * b2 - c4 = 24 * b4 ∧ 36 * b2 * b4 - b2 * b2 * b2 - c6 = 216 * b6
  | [], _, _, _, h => by cases h
  | b :: bs, b2, b4, b6, h => by
    unfold toldL at h
    by_cases z : (b + c6) % 12 = 0
    · rw [if_pos z] at h
      cases e : ow (b * b - c4) 24 with
      | none =>
        rw [e] at h
        cases h
      | some x =>
        rw [e] at h
        simp only [] at h
        cases f : ow (36 * b * x - b * b * b - c6) 216 with
        | none =>
          rw [f] at h
          cases h
        | some y =>
          rw [f] at h
          simp only [Option.some.injEq, Prod.mk.injEq] at h
          obtain ⟨rfl, rfl, rfl⟩ := h
          exact ⟨List.mem_cons_self, ow_some e, ow_some f⟩
    · rw [if_neg z] at h
      obtain ⟨h1, h2⟩ := toldL_some h
      exact ⟨List.mem_cons_of_mem _ h1, h2⟩
theorem curve_some {c4 c6 : Int} {c : Cv} (h : curveOf c4 c6 = some c) : Rc c ∧ Fits c4 c6 c := by
  unfold curveOf at h
  cases e : told c4 c6 with
  | none =>
    rw [e] at h
    cases h
  | some t =>
    obtain ⟨b2, b4, b6⟩ := t
    rw [e] at h
    simp only [] at h
    obtain ⟨hm, e4, e6⟩ := toldL_some e
    by_cases z : c4 * c4 * c4 = c6 * c6
    · rw [if_pos z] at h
      cases h
    · rw [if_neg z] at h
      cases f : ow (b4 - b2 % 2 * (b6 % 2)) 2 with
      | none =>
        rw [f] at h
        cases h
      | some a4 =>
        rw [f] at h
        simp only [] at h
        cases g : ow (b6 - b6 % 2) 4 with
        | none =>
          rw [g] at h
          cases h
        | some a6 =>
          rw [g] at h
          simp only [Option.some.injEq] at h
          subst h
          have f' := ow_some f
          have g' := ow_some g
          simp only [List.mem_cons, List.not_mem_nil, or_false] at hm
          have hb : Cv.b2 ⟨b2 % 2, (b2 - b2 % 2) / 4, b6 % 2, a4, a6⟩ = b2 := by
            unfold Cv.b2
            rcases hm with rfl | rfl | rfl | rfl | rfl | rfl <;> rfl
          have hb4 : Cv.b4 ⟨b2 % 2, (b2 - b2 % 2) / 4, b6 % 2, a4, a6⟩ = b4 := by
            unfold Cv.b4
            simp only []
            omega
          have hb6 : Cv.b6 ⟨b2 % 2, (b2 - b2 % 2) / 4, b6 % 2, a4, a6⟩ = b6 := by
            unfold Cv.b6
            simp only []
            rcases Int.emod_two_eq b6 with q | q <;> rw [q] at g' ⊢ <;> omega
          have hc4 : Cv.c4 ⟨b2 % 2, (b2 - b2 % 2) / 4, b6 % 2, a4, a6⟩ = c4 := by
            rw [c4_of, hb, hb4]
            omega
          have hc6 : Cv.c6 ⟨b2 % 2, (b2 - b2 % 2) / 4, b6 % 2, a4, a6⟩ = c6 := by
            rw [c6_of, hb, hb4, hb6]
            omega
          refine ⟨⟨?_, ?_, ?_⟩, hc4, hc6, fun d => z ?_⟩
          · show b2 % 2 = 0 ∨ b2 % 2 = 1
            omega
          · show (b2 - b2 % 2) / 4 = -1 ∨ (b2 - b2 % 2) / 4 = 0 ∨ (b2 - b2 % 2) / 4 = 1
            rcases hm with rfl | rfl | rfl | rfl | rfl | rfl <;> decide
          · show b6 % 2 = 0 ∨ b6 % 2 = 1
            omega
          · rw [disc0, hc4, hc6] at d
            exact d
theorem curve_rc {c : Cv} (h : Rc c) (hd : c.disc ≠ 0) : curveOf c.c4 c.c6 = some c := by
  have k1 := b2_of h
  have e4 := c4_of c
  have e6 := c6_of c
  have f4 : c.b4 = 2 * c.a4 + c.a1 * c.a3 := rfl
  have f6 : c.b6 = c.a3 * c.a3 + 4 * c.a6 := rfl
  have h3 := h.h3
  have hz : ¬ c.c4 * c.c4 * c.c4 = c.c6 * c.c6 := fun e => hd (disc0 c |>.mpr e)
  clear h hd
  obtain ⟨a1, a2, a3, a4, a6⟩ := c
  simp only [] at *
  generalize Cv.c4 ⟨a1, a2, a3, a4, a6⟩ = c4 at *
  generalize Cv.c6 ⟨a1, a2, a3, a4, a6⟩ = c6 at *
  generalize Cv.b4 ⟨a1, a2, a3, a4, a6⟩ = u4 at *
  generalize Cv.b6 ⟨a1, a2, a3, a4, a6⟩ = u6 at *
  generalize Cv.b2 ⟨a1, a2, a3, a4, a6⟩ = u2 at *
  have ht : told c4 c6 = some (u2, u4, u6) := by
    have s4 : ow (u2 * u2 - c4) 24 = some u4 := ow_is (by decide) (by omega)
    have s6 : ow (36 * u2 * u4 - u2 * u2 * u2 - c6) 216 = some u6 := ow_is (by decide) (by omega)
    have hh : ∀ bs : List Int, toldL c4 c6 (u2 :: bs) = some (u2, u4, u6) := fun bs => by
      unfold toldL
      rw [if_pos (by
        subst e6
        rcases k1 with ⟨_, _, rfl⟩ | ⟨_, _, rfl⟩ | ⟨_, _, rfl⟩ | ⟨_, _, rfl⟩ | ⟨_, _, rfl⟩ | ⟨_, _, rfl⟩ <;> omega), s4]
      simp only []
      rw [s6]
    have hs : ∀ (b : Int) (bs : List Int), ¬ (b + c6) % 12 = 0 → toldL c4 c6 (b :: bs) = toldL c4 c6 bs := fun b bs q => by
      rw [toldL, if_neg q]
    unfold told
    clear s4 s6 hz e4 f4 f6
    rcases k1 with ⟨_, _, rfl⟩ | ⟨_, _, rfl⟩ | ⟨_, _, rfl⟩ | ⟨_, _, rfl⟩ | ⟨_, _, rfl⟩ | ⟨_, _, rfl⟩
    · rw [hs 0 _ (by omega), hs 1 _ (by omega), hs 4 _ (by omega), hs 5 _ (by omega), hh]
    · rw [hh]
    · rw [hs 0 _ (by omega), hs 1 _ (by omega), hh]
    · rw [hs 0 _ (by omega), hs 1 _ (by omega), hs 4 _ (by omega), hs 5 _ (by omega), hs (-4) _ (by omega), hh]
    · rw [hs 0 _ (by omega), hh]
    · rw [hs 0 _ (by omega), hs 1 _ (by omega), hs 4 _ (by omega), hh]
  unfold curveOf
  rw [ht]
  simp only []
  rw [if_neg hz]
  have p1 : u2 % 2 = a1 := by rcases k1 with ⟨rfl, rfl, rfl⟩ | ⟨rfl, rfl, rfl⟩ | ⟨rfl, rfl, rfl⟩ | ⟨rfl, rfl, rfl⟩ | ⟨rfl, rfl, rfl⟩ | ⟨rfl, rfl, rfl⟩ <;> decide
  have p2 : (u2 - a1) / 4 = a2 := by rcases k1 with ⟨rfl, rfl, rfl⟩ | ⟨rfl, rfl, rfl⟩ | ⟨rfl, rfl, rfl⟩ | ⟨rfl, rfl, rfl⟩ | ⟨rfl, rfl, rfl⟩ | ⟨rfl, rfl, rfl⟩ <;> decide
  have p3 : u6 % 2 = a3 := by rcases h3 with rfl | rfl <;> omega
  rw [p1, p2, p3, ow_is (k := a4) (by decide) (by omega)]
  simp only []
  rw [ow_is (k := a6) (by decide) (by rcases h3 with rfl | rfl <;> omega)]
theorem due_is (c4 c6 : Int) : (pairN c4 c6 12 = [] ∧ curveOf c4 c6 = none) ∨ ∃ c, pairN c4 c6 12 = [c] ∧ curveOf c4 c6 = some c ∧ Rc c ∧ Fits c4 c6 c := by
  cases e : curveOf c4 c6 with
  | none =>
    left
    refine ⟨?_, rfl⟩
    cases f : pairN c4 c6 12 with
    | nil => rfl
    | cons c l =>
      obtain ⟨h1, h4, h6, hd⟩ := pair_mem (c := c) (Nat.le_refl 12) (by rw [f]; exact List.mem_cons_self)
      have := curve_rc h1 hd
      rw [h4, h6, e] at this
      cases this
  | some c =>
    right
    obtain ⟨h1, h4, h6, hd⟩ := curve_some e
    refine ⟨c, ?_, rfl, h1, h4, h6, hd⟩
    have := pair_one h1 hd
    rw [h4, h6] at this
    exact this
theorem curve_sq (e : Int) : curveOf (e * e) (e ^ 3) = none := by
  cases h : curveOf (e * e) (e ^ 3) with
  | none => rfl
  | some c =>
    obtain ⟨_, h4, h6, hd⟩ := curve_some h
    exfalso
    apply hd
    rw [disc0, h4, h6]
    grind
end K13
set_option Elab.async false
set_option linter.all false
set_option maxRecDepth 100000
set_option maxHeartbeats 400000
namespace K13
open PySem PySem.Spec PyProof.Rows L2 Gd QM
local macro_rules | `(tactic| walk_at "bd") => `(tactic| (repeat (first | assumption | apply B.add | apply B.sub | apply B.mul | apply B.neg | exact B.lit (n := 8) (by decide))))
local macro_rules | `(tactic| walk_at "bu") => `(tactic| (apply B.up; walk_at "bd"; decide))
local macro_rules | `(tactic| walk_at "bnd") => `(tactic| (apply B.mulW; walk_at "bd"; decide))
local macro_rules | `(tactic| walk_at "mm") => `(tactic| (repeat (first | exact List.mem_cons_self | apply List.mem_cons_of_mem)))
def chOf (c : Cv) : Ch := ⟨1, ((rR c : Int) : Rat), ((rS c : Int) : Rat), ((rT c : Int) : Rat)⟩
theorem qs_red (c : Cv) : qsL (chOf c) c = (red c).ints.map (fun n : Int => (n : Rat)) := by
  unfold qsL chOf l1 l2 l3 l4 l6 red moved Cv.ints
  simp only [List.map_cons, List.map_nil, List.cons.injEq, and_true]
  push_cast
  refine ⟨?_, ?_, ?_, ?_, ?_⟩ <;> grind
theorem allW_ints (ns : List Int) : AllW (ns.map fun n : Int => (n : Rat)) := by
  intro q hq
  obtain ⟨n, _, rfl⟩ := List.mem_map.mp hq
  exact Rat.den_intCast n
theorem num_ints (ns : List Int) : ((ns.map fun n : Int => (n : Rat)).map fun q => V.int q.num) = ns.map V.int := by
  rw [List.map_map]
  exact List.map_congr_left fun n _ => congrArg V.int (Rat.num_intCast n)
theorem Cv.Sm.s {c : Cv} (h : c.Sm) : B 10 (rS c) := by
  have := h.h1
  unfold rS
  unfold B at *
  omega
theorem Cv.Sm.r {c : Cv} (h : c.Sm) : B 19 (rR c) := by
  have hs : (rS c).natAbs ≤ 512 := by
    have := h.h1
    unfold rS
    unfold B at *
    omega
  have ha : c.a1.natAbs ≤ 1023 := by
    have := h.h1
    unfold B at *
    omega
  have h1 : (rS c * c.a1).natAbs ≤ 512 * 1023 := by
    rw [Int.natAbs_mul]
    exact Nat.mul_le_mul hs ha
  have h2 : (rS c * rS c).natAbs ≤ 512 * 512 := by
    rw [Int.natAbs_mul]
    exact Nat.mul_le_mul hs hs
  have h3 := h.h2
  unfold rR
  generalize rS c * c.a1 = x at *
  generalize rS c * rS c = y at *
  unfold B at *
  omega
theorem Cv.Sm.t {c : Cv} (h : c.Sm) : B 29 (rT c) := by
  have h1 : B 29 (rR c * c.a1) := h.r.mul h.h1
  have h3 := h.h3
  unfold rT
  generalize rR c * c.a1 = x at *
  unfold B at *
  omega
theorem fq_1 : [V.int 1, V.int 1] = fq 1 := rfl
theorem rb_1 : RB 1 (1 : Rat) := ⟨by decide, by decide⟩
section
variable {P : Program} {w : World} {K : PySem.W.Frag} {mg : Str → Option Value} {base : Heap}
def sp_reduced (K : PySem.W.Frag) : Sp := fun vs H Q _ => ∃ (p : Addr) (c : Cv), vs = [.ref p] ∧ SqT K H p c.tup ∧ c.Sm ∧ ∀ H' t pd po, Same H H' → H' t = some (.tup [.ref pd, .ref po]) → H' pd = some (.tup (red c).tup) → ChAt K H' po (chOf c) → Q (.ref t) H'
/-! ### over_whole -/
def oV : Option Int → V
  | none => .non
  | some n => .int n
def sp_over_whole (K : PySem.W.Frag) : Sp := fun vs H Q _ => ∃ n d : Int, vs = [.int n, .int d] ∧ 0 < d ∧ d < 1000000 ∧ Q (oV (ow n d)) H
abbrev s_over_whole : Stmt := topS 45
theorem sc_over_whole : FnScope ["n", "d"] ["n", "d"] (defScope s_over_whole) := ⟨rfl, rfl, rfl, by decide +kernel, rfl, by decide +kernel, by decide +kernel⟩
theorem k_over_whole (T : Tx K mg) (D : Df K mg "over_whole" s_over_whole ["n", "d"])  : Kl P w K mg base 1 "over_whole" (sp_over_whole K) := by
  have nd := sc_over_whole.nd
  refine Kl.by_body D sc_over_whole (fun vs H Q E h => ?_) (fun f cdv A outer s H vs Q E hr h => ?_)
  · obtain ⟨_, _, rfl, _⟩ := h
    rfl
  · obtain ⟨n, d, rfl, hd, hb, q⟩ := h
    have hu1 := hu_of hr
    refine ⟨_, (pss_one (ps_ret (pe_ifExp (pt_cmpR op_eq (pe_op op_mod (pv 0) (pv 1)) pe_int (nomark _)) (pe_op op_fdivN (pv 0) (pv 1)) pe_non))), ?_⟩
    refine ⟨_, rfl, _, rfl, _, _, rfl, rfl, hd, rfl, _, rfl, ?_⟩
    rw [dec_int]
    by_cases hz : n % d = 0
    · refine iteY (by simp [hz]) ?_
      have e : ow n d = some (n.fdiv d) := by
        unfold ow
        rw [if_pos hz, Int.fdiv_eq_ediv_of_nonneg _ (by omega)]
      rw [e] at q
      exact ⟨_, rfl, _, rfl, n, d, rfl, rfl, ⟨by omega, by omega⟩, q⟩
    · refine iteN (by simp [hz]) ?_
      have e : ow n d = none := by
        unfold ow
        rw [if_neg hz]
      rw [e] at q
      exact q
end
end K13
set_option Elab.async false
set_option linter.all false
set_option maxRecDepth 100000
set_option maxHeartbeats 400000
namespace K13
open PySem PySem.Spec PyProof.Rows L2 Gd QM
local macro_rules | `(tactic| walk_at "bd") => `(tactic| (repeat (first | assumption | apply B.add | apply B.sub | apply B.mul | apply B.neg | exact B.lit (n := 8) (by decide))))
local macro_rules | `(tactic| walk_at "bu") => `(tactic| (apply B.up; walk_at "bd"; decide))
local macro_rules | `(tactic| walk_at "bnd") => `(tactic| (apply B.mulW; walk_at "bd"; decide))
def sixB : List Int := [0, 1, 4, 5, -4, -3]
theorem sixB_B {b : Int} (h : b ∈ sixB) : B 3 b := by
  unfold sixB at h
  simp only [List.mem_cons, List.not_mem_nil, or_false] at h
  rcases h with rfl | rfl | rfl | rfl | rfl | rfl <;> exact B.lit (by decide)
theorem toldL_yes {c4 c6 b : Int} {bs : List Int} (h : (b + c6) % 12 = 0) : toldL c4 c6 (b :: bs) = match ow (b * b - c4) 24 with
      | none => none
      | some b4 => match ow (36 * b * b4 - b * b * b - c6) 216 with
        | none => none
        | some b6 => some (b, b4, b6) := by
  rw [toldL, if_pos h] <;> rfl
theorem toldL_no {c4 c6 b : Int} {bs : List Int} (h : ¬ (b + c6) % 12 = 0) : toldL c4 c6 (b :: bs) = toldL c4 c6 bs := by
  rw [toldL, if_neg h]
theorem ow_B {m : Nat} {n d k : Int} (hn : B m n) (hd : 0 < d) (h : ow n d = some k) : B m k := by
  have e := ow_some h
  unfold B at *
  have h1 : n.natAbs = d.natAbs * k.natAbs := by rw [e, Int.natAbs_mul]
  have h2 : 1 * k.natAbs ≤ d.natAbs * k.natAbs := Nat.mul_le_mul_right _ (by omega)
  omega
section
variable {P : Program} {w : World} {K : PySem.W.Frag} {mg : Str → Option Value} {base : Heap}
def sp_told_numbers (K : PySem.W.Frag) : Sp := fun vs H Q _ => ∃ c4 c6 : Int, vs = [.int c4, .int c6] ∧ B 100 c4 ∧ B 120 c6 ∧ (told c4 c6 = none → Q .non H) ∧ ∀ b2 b4 b6 t, told c4 c6 = some (b2, b4, b6) → B 3 b2 → B 101 b4 → B 121 b6 → H t = none → Q (.ref t) (upd H t (.tup [.int b2, .int b4, .int b6]))
abbrev s_told_numbers : Stmt := topS 46
theorem sc_told_numbers : FnScope ["c4", "c6", "b2", "b4", "b6"] ["c4", "c6"] (defScope s_told_numbers) := ⟨rfl, rfl, rfl, by decide +kernel, rfl, by decide +kernel, by decide +kernel⟩
theorem k_told_numbers (T : Tx K mg) (D : Df K mg "told_numbers" s_told_numbers ["c4", "c6"]) (c_over_whole : Kl P w K mg base 1 "over_whole" (sp_over_whole K)) : Kl P w K mg base 2 "told_numbers" (sp_told_numbers K) := by
  have nd := sc_told_numbers.nd
  refine Kl.by_body D sc_told_numbers (fun vs H Q E h => ?_) (fun f cdv A outer s H vs Q E hr h => ?_)
  · obtain ⟨_, _, rfl, _⟩ := h
    rfl
  · obtain ⟨c4, c6, rfl, h4, h6, q1, q2⟩ := h
    obtain ⟨aR, hR, gR⟩ := T.c_REDUCED_B2
    have hu1 := hu_of hr
    refine ⟨_, (pss_cons (ps_for PassesOwn.never rfl (pi_tup (pe_kon (by rfl) hR)) (pg_name (i := 2) nd rfl (by first | exact Or.inl rfl | exact Or.inr rfl)) (pss_one (ps_if (pt_cmpR op_eq (pe_op op_mod (pe_op op_add (pv 2) (pv 1)) pe_int) pe_int (nomark _)) (pss_cons (ps_set (i := 3) nd rfl (by first | exact Or.inl rfl | exact Or.inr rfl) (pe_k c_over_whole  hr (by decide) (by rfl) (pa_cons (pe_op op_sub (pe_op op_mulW (pv 2) (pv 2)) (pv 0)) (pa_cons pe_int pa_nil))))
      (pss_cons (ps_if (pt_cmpR op_isN (pv 3) pe_non (nomark _)) (pss_one (ps_ret pe_non)) pss_nil)
      (pss_cons (ps_set (i := 4) nd rfl (by first | exact Or.inl rfl | exact Or.inr rfl) (pe_k c_over_whole  hr (by decide) (by rfl) (pa_cons (pe_op op_sub (pe_op op_sub (pe_op op_mulW (pe_op op_mul pe_int (pv 2)) (pv 3)) (pe_op op_mulW (pe_op op_mulW (pv 2) (pv 2)) (pv 2))) (pv 1)) (pa_cons pe_int pa_nil))))
      (pss_one (ps_ret (pe_ifExp (pt_cmpR op_isN (pv 4) pe_non (nomark _)) pe_non (pe_tup (pa_cons (pv 2) (pa_cons (pv 3) (pa_cons (pv 4) pa_nil)))))))))) pss_nil)))
      (pss_one (ps_ret pe_non))), ?_⟩
    have gR' : ∀ H', SqT K H' aR (sixB.map V.int) := gR
    refine ⟨aR, rfl, ⟨_, gR' H⟩, for_tup (K := K) (a := aR) (xs := sixB.map V.int) (fun i σ H2 => H2 = H ∧ told c4 c6 = toldL c4 c6 (sixB.drop i) ∧ ∃ v, σ = [some (.int c4), some (.int c6), v, none, none]) ⟨rfl, rfl, none, rfl⟩ (fun i σ H2 _ z => gR' H2) ?_ ?_⟩
    · rintro i x σ H2 hi ⟨rfl, ht, v, rfl⟩
      obtain ⟨b, rfl, hb⟩ : ∃ b, x = .int b ∧ sixB[i]? = some b := by
        rw [List.getElem?_map] at hi
        cases e : sixB[i]? with
        | none =>
          rw [e] at hi
          cases hi
        | some y =>
          rw [e] at hi
          exact ⟨y, (Option.some.inj hi).symm, rfl⟩
      have hbm := List.mem_of_getElem? hb
      have bB := sixB_B hbm
      have hdr : sixB.drop i = b :: sixB.drop (i + 1) := by
        obtain ⟨hl, he⟩ := List.getElem?_eq_some_iff.mp hb
        rw [List.drop_eq_getElem_cons hl, he]
      rw [hdr] at ht
      refine ⟨_, rfl, _, rfl, _, _, rfl, rfl, _, _, rfl, rfl, (by show (0 : Int) < 12; decide), rfl, _, rfl, ?_⟩
      rw [dec_int]
      by_cases hz : (b + c6) % 12 = 0
      · refine iteY (by simp [hz]) ?_
        rw [toldL_yes hz] at ht
        refine ⟨_, rfl, _, rfl, _, _, rfl, rfl, (by walk_at "bnd"), _, rfl, _, _, rfl, rfl, _, 24, rfl, by decide, by decide, ?_⟩
        cases e4 : ow (b * b - c4) 24 with
        | none =>
          rw [e4] at ht
          refine ⟨_, rfl, rfl, _, rfl, iteT ?_⟩
          exact q1 ht
        | some b4 =>
          rw [e4] at ht
          simp only [] at ht
          have B4 : B 101 b4 := ow_B (by walk_at "bu") (by decide) e4
          refine ⟨_, rfl, rfl, _, rfl, iteF ?_⟩
          first | refine sigN [some (.int (c4)), some (.int (c6)), some (.int (b)), some (.int (b4)), none] (by rfl) ?_ | refine sig [some (.int (c4)), some (.int (c6)), some (.int (b)), some (.int (b4)), none] (by rfl) ?_
          refine ⟨_, rfl, _, _, rfl, rfl, (Or.inl ⟨by decide, by decide⟩), _, rfl, _, _, rfl, rfl, (by walk_at "bnd"), _, rfl, _, rfl, _, _, rfl, rfl, (by walk_at "bnd"), _, rfl, _, _, rfl, rfl, (by walk_at "bnd"), _, _, rfl, rfl, _, rfl, _, _, rfl, rfl, _, 216, rfl, by decide, by decide, ?_⟩
          cases e6 : ow (36 * b * b4 - b * b * b - c6) 216 with
          | none =>
            rw [e6] at ht
            refine ⟨_, rfl, rfl, _, rfl, iteT ?_⟩
            exact q1 ht
          | some b6 =>
            rw [e6] at ht
            have B6 : B 121 b6 := ow_B (by walk_at "bu") (by decide) e6
            refine ⟨_, rfl, rfl, _, rfl, iteF ?_⟩
            refine ⟨_, rfl, _, rfl, _, rfl, (by show 3 ≤ sizeLine; decide), fun t nt => ?_⟩
            exact q2 b b4 b6 t ht bB B4 B6 nt
      · refine iteN (by simp [hz]) ?_
        rw [toldL_no hz] at ht
        exact ⟨rfl, ht, _, rfl⟩
    · rintro σ H2 ⟨rfl, ht, v, rfl⟩
      exact q1 ht
def sp_curve_of (K : PySem.W.Frag) : Sp := fun vs H Q _ => ∃ c4 c6 : Int, vs = [.int c4, .int c6] ∧ B 100 c4 ∧ B 120 c6 ∧ (curveOf c4 c6 = none → ∀ H', Same H H' → Q .non H') ∧ ∀ c t H', curveOf c4 c6 = some c → Same H H' → H' t = some (.tup c.tup) → Q (.ref t) H'
theorem curve_none_told {c4 c6 : Int} (h : told c4 c6 = none) : curveOf c4 c6 = none := by
  unfold curveOf
  rw [h]
theorem curve_told {c4 c6 b2 b4 b6 : Int} (h : told c4 c6 = some (b2, b4, b6)) : curveOf c4 c6 = if c4 * c4 * c4 = c6 * c6 then none else
    match ow (b4 - b2 % 2 * (b6 % 2)) 2 with
    | none => none
    | some a4 => match ow (b6 - b6 % 2) 4 with
      | none => none
      | some a6 => some ⟨b2 % 2, (b2 - b2 % 2) / 4, b6 % 2, a4, a6⟩ := by
  unfold curveOf
  rw [h] <;> rfl
theorem two_B (x : Int) : B 1 (x % 2) := by
  unfold B
  omega
abbrev s_curve_of : Stmt := topS 47
theorem sc_curve_of : FnScope ["c4", "c6", "told", "b2", "b4", "b6", "a1", "a3", "a4", "a6"] ["c4", "c6"] (defScope s_curve_of) := ⟨rfl, rfl, rfl, by decide +kernel, rfl, by decide +kernel, by decide +kernel⟩
theorem k_curve_of (T : Tx K mg) (D : Df K mg "curve_of" s_curve_of ["c4", "c6"]) (c_told_numbers : Kl P w K mg base 2 "told_numbers" (sp_told_numbers K)) (c_over_whole : Kl P w K mg base 1 "over_whole" (sp_over_whole K)) : Kl P w K mg base 3 "curve_of" (sp_curve_of K) := by
  have nd := sc_curve_of.nd
  refine Kl.by_body D sc_curve_of (fun vs H Q E h => ?_) (fun f cdv A outer s H vs Q E hr h => ?_)
  · obtain ⟨_, _, rfl, _⟩ := h
    rfl
  · obtain ⟨c4, c6, rfl, h4, h6, q1, q2⟩ := h
    have hu1 := hu_of hr
    refine ⟨_, (pss_cons (ps_set (i := 2) nd rfl (by first | exact Or.inl rfl | exact Or.inr rfl) (pe_k c_told_numbers  hr (by decide) (by rfl) (pa_cons (pv 0) (pa_cons (pv 1) pa_nil))))
      (pss_cons (ps_if (PW.pt (pw_or (pt_cmpR op_isN (pv 2) pe_non (nomark _)) (pw_or1 (pt_cmpR op_eq (pe_op op_mulW (pe_op op_mulW (pv 0) (pv 0)) (pv 0)) (pe_op op_mulW (pv 1) (pv 1)) (nomark _))))) (pss_one (ps_ret pe_non)) pss_nil)
      (pss_cons (ps_asg (pv 2) (pg_tup rfl (pgs_cons (pg_name (i := 3) nd rfl (by first | exact Or.inl rfl | exact Or.inr rfl)) (pgs_cons (pg_name (i := 4) nd rfl (by first | exact Or.inl rfl | exact Or.inr rfl)) (pgs_cons (pg_name (i := 5) nd rfl (by first | exact Or.inl rfl | exact Or.inr rfl)) pgs_nil)))))
      (pss_cons (ps_par (i := 6) (j := 7) (by rfl) nd rfl rfl (by decide) rfl rfl (pa_cons (pe_op op_mod (pv 3) pe_int) (pa_cons (pe_op op_mod (pv 5) pe_int) pa_nil)) (by rfl))
      (pss_cons (ps_par (i := 8) (j := 9) (by rfl) nd rfl rfl (by decide) rfl rfl (pa_cons (pe_k c_over_whole  hr (by decide) (by rfl) (pa_cons (pe_op op_sub (pv 4) (pe_op op_mulW (pv 6) (pv 7))) (pa_cons pe_int pa_nil))) (pa_cons (pe_k c_over_whole  hr (by decide) (by rfl) (pa_cons (pe_op op_sub (pv 5) (pv 7)) (pa_cons pe_int pa_nil))) pa_nil)) (by rfl))
      (pss_cons (ps_if (PW.pt (pw_or (pt_cmpR op_isN (pv 8) pe_non (nomark _)) (pw_or1 (pt_cmpR op_isN (pv 9) pe_non (nomark _))))) (pss_one (ps_ret pe_non)) pss_nil)
      (pss_one (ps_ret (pe_tup (pa_cons (pv 6) (pa_cons (pe_op op_fdiv (pe_op op_sub (pv 3) (pv 6)) pe_int) (pa_cons (pv 7) (pa_cons (pv 8) (pa_cons (pv 9) pa_nil)))))))))))))), ?_⟩
    refine ⟨_, rfl, _, rfl, c4, c6, rfl, h4, h6, fun hn => ?_, fun b2 b4 b6 t ht B2 B4 B6 nt => ?_⟩
    · refine ⟨_, rfl, rfl, _, rfl, iteT ?_⟩
      exact q1 (curve_none_told hn) _ (Same.refl H)
    · have hc := curve_told ht
      have s1 := Same.new (H := H) (p := t) (o := .tup [.int b2, .int b4, .int b6]) nt
      have g1 : upd H t (.tup [.int b2, .int b4, .int b6]) t = some (.tup [.int b2, .int b4, .int b6]) := upd_same
      generalize upd H t (.tup [.int b2, .int b4, .int b6]) = H1 at s1 g1 ⊢
      first | refine sigN [some (.int (c4)), some (.int (c6)), some (.ref t), none, none, none, none, none, none, none] (by rfl) ?_ | refine sig [some (.int (c4)), some (.int (c6)), some (.ref t), none, none, none, none, none, none, none] (by rfl) ?_
      refine ⟨_, rfl, rfl, _, rfl, iteF ?_⟩
      refine ⟨_, rfl, _, rfl, _, _, rfl, rfl, (by walk_at "bnd"), _, rfl, _, _, rfl, rfl, (by walk_at "bnd"), _, rfl, _, rfl, _, _, rfl, rfl, (by walk_at "bnd"), rfl, _, rfl, ?_⟩
      rw [dec_int]
      by_cases hz : c4 * c4 * c4 = c6 * c6
      · refine iteY (by simp [hz]) ?_
        rw [if_pos hz] at hc
        exact q1 hc _ s1
      · refine iteN (by simp [hz]) ?_
        rw [if_neg hz] at hc
        refine ⟨.ref t, rfl, t, _, rfl, tup_of g1, rfl, _, _, rfl, _, _, rfl, _, _, rfl, rfl, ?_⟩
        first | refine sigN [some (.int (c4)), some (.int (c6)), some (.ref t), some (.int (b2)), some (.int (b4)), some (.int (b6)), none, none, none, none] (by rfl) ?_ | refine sig [some (.int (c4)), some (.int (c6)), some (.ref t), some (.int (b2)), some (.int (b4)), some (.int (b6)), none, none, none, none] (by rfl) ?_
        refine ⟨_, rfl, _, _, rfl, rfl, (by show (0 : Int) < 2; decide), _, rfl, _, _, rfl, rfl, (by show (0 : Int) < 2; decide), _, _, rfl, ?_⟩
        have t2 := two_B b2
        have t6 := two_B b6
        first | refine sigN [some (.int (c4)), some (.int (c6)), some (.ref t), some (.int (b2)), some (.int (b4)), some (.int (b6)), some (.int (b2 % 2)), some (.int (b6 % 2)), none, none] (by rfl) ?_ | refine sig [some (.int (c4)), some (.int (c6)), some (.ref t), some (.int (b2)), some (.int (b4)), some (.int (b6)), some (.int (b2 % 2)), some (.int (b6 % 2)), none, none] (by rfl) ?_
        refine ⟨_, rfl, _, rfl, _, rfl, _, _, rfl, rfl, (by walk_at "bnd"), _, _, rfl, rfl, _, 2, rfl, by decide, by decide, ?_⟩
        refine ⟨_, rfl, _, rfl, _, _, rfl, rfl, _, 4, rfl, by decide, by decide, ?_⟩
        refine ⟨_, _, rfl, ?_⟩
        cases e4 : ow (b4 - b2 % 2 * (b6 % 2)) 2 with
        | none =>
          rw [e4] at hc
          refine ⟨_, rfl, rfl, _, rfl, iteT ?_⟩
          exact q1 hc _ s1
        | some a4 =>
          rw [e4] at hc
          simp only [] at hc
          refine ⟨_, rfl, rfl, _, rfl, iteF ?_⟩
          cases e6 : ow (b6 - b6 % 2) 4 with
          | none =>
            rw [e6] at hc
            refine ⟨_, rfl, rfl, _, rfl, iteT ?_⟩
            exact q1 hc _ s1
          | some a6 =>
            rw [e6] at hc
            refine ⟨_, rfl, rfl, _, rfl, iteF ?_⟩
            first | refine sigN [some (.int (c4)), some (.int (c6)), some (.ref t), some (.int (b2)), some (.int (b4)), some (.int (b6)), some (.int (b2 % 2)), some (.int (b6 % 2)), some (.int (a4)), some (.int (a6))] (by rfl) ?_ | refine sig [some (.int (c4)), some (.int (c6)), some (.ref t), some (.int (b2)), some (.int (b4)), some (.int (b6)), some (.int (b2 % 2)), some (.int (b6 % 2)), some (.int (a4)), some (.int (a6))] (by rfl) ?_
            refine ⟨_, rfl, _, rfl, _, rfl, _, _, rfl, rfl, _, _, rfl, rfl, ⟨by decide, by decide⟩, _, rfl, _, rfl, _, rfl, (by show 5 ≤ sizeLine; decide), fun z nz => ?_⟩
            exact q2 _ z _ hc (s1.trans (Same.new nz)) upd_same
end
end K13
set_option Elab.async false
set_option linter.all false
set_option maxRecDepth 100000
set_option maxHeartbeats 400000
namespace K13
open PySem PySem.Spec PyProof.Rows L2 Gd QM
local macro_rules | `(tactic| walk_at "mm") => `(tactic| (repeat (first | exact List.mem_cons_self | apply List.mem_cons_of_mem)))
/-- refs at fractions, or nothing -/
def PsAt (K : PySem.W.Frag) (H : Hp) (xs : List V) (ps : List (Option Rat)) : Prop := ∀ (i : Nat) (y : V), xs[i]? = some y → (∃ a q, y = .ref a ∧ ps[i]? = some (some q) ∧ PrT K H a q 2000) ∨ (y = .non ∧ ps[i]? = some none)
theorem PsAt.nil {K : PySem.W.Frag} {H : Hp} : PsAt K H [] [] := fun i y h => by cases h
theorem PsAt.some {K : PySem.W.Frag} {H : Hp} {xs : List V} {ps : List (Option Rat)} {a : Addr} {q : Rat} (h : PsAt K H xs ps) (g : PrT K H a q 2000) : PsAt K H (.ref a :: xs) (.some q :: ps) := fun i y e => by
  cases i with
  | zero =>
    obtain rfl := Option.some.inj e
    exact .inl ⟨a, q, rfl, rfl, g⟩
  | succ i => exact h i y e
theorem PsAt.none {K : PySem.W.Frag} {H : Hp} {xs : List V} {ps : List (Option Rat)} (h : PsAt K H xs ps) : PsAt K H (.non :: xs) (.none :: ps) := fun i y e => by
  cases i with
  | zero =>
    obtain rfl := Option.some.inj e
    exact .inr ⟨rfl, rfl⟩
  | succ i => exact h i y e
theorem PsAt.same {K : PySem.W.Frag} {H H' : Hp} {xs : List V} {ps : List (Option Rat)} (s : Same H H') (h : PsAt K H xs ps) : PsAt K H' xs ps := fun i y e => by
  rcases h i y e with ⟨a, q, h1, h2, h3⟩ | z
  · exact .inl ⟨a, q, h1, h2, h3.same s⟩
  · exact .inr z
/-- a list that is being made of fractions -/
def RfD (K : PySem.W.Frag) (H : Hp) (D : Addr) (qs : List Rat) : Prop := ∃ L : List Addr, H D = some (.lst (L.map V.ref)) ∧ RfAt K H (L.map V.ref) qs
theorem fm_some {ps : List (Option Rat)} {i : Nat} {q : Rat} (h : ps[i]? = some (some q)) : (ps.take (i + 1)).filterMap id = (ps.take i).filterMap id ++ [q] := by
  rw [List.take_succ, List.filterMap_append, h]
  rfl
theorem fm_none {ps : List (Option Rat)} {i : Nat} (h : ps[i]? = some none) : (ps.take (i + 1)).filterMap id = (ps.take i).filterMap id := by
  rw [List.take_succ, List.filterMap_append, h]
  exact List.append_nil _
theorem fm_len (ps : List (Option Rat)) (i : Nat) : ((ps.take i).filterMap id).length ≤ i :=
  Nat.le_trans (List.length_filterMap_le _ _) (by rw [List.length_take]; omega)
theorem RfAt.push {K : PySem.W.Frag} {H : Hp} {xs : List V} {qs : List Rat} {t : Addr} {q : Rat} (h : RfAt K H xs qs) (ht : SqT K H t (fq q)) : RfAt K H (xs ++ [.ref t]) (qs ++ [q]) := by
  refine ⟨by rw [List.length_append, List.length_append, h.1]; rfl, fun i x e => ?_⟩
  rcases Nat.lt_or_ge i xs.length with z | z
  · rw [List.getElem?_append_left z] at e
    obtain ⟨a, r, h1, h2, h3⟩ := h.2 i x e
    exact ⟨a, r, h1, by rw [List.getElem?_append_left (by rw [← h.1]; exact z)]; exact h2, h3⟩
  · rw [List.getElem?_append_right z] at e
    have e0 : i - xs.length = 0 := by
      rcases Nat.eq_zero_or_pos (i - xs.length) with y | y
      · exact y
      · rw [List.getElem?_eq_none (by simp; omega)] at e
        cases e
    rw [e0] at e
    obtain rfl := Option.some.inj e
    exact ⟨t, q, rfl, by rw [List.getElem?_append_right (by rw [← h.1]; exact z), ← h.1, e0]; rfl, ht⟩
theorem RfAt.put {K : PySem.W.Frag} {H : Hp} {D : Addr} {L xs : List V} {qs : List Rat} {o : HO} (hD : H D = some (.lst L)) (h : RfAt K H xs qs) : RfAt K (upd H D o) xs qs :=
  ⟨h.1, fun i x e => (h.2 i x e).imp fun a z => z.imp fun q y => ⟨y.1, y.2.1, tup_put hD y.2.2⟩⟩
theorem but_tup {K : PySem.W.Frag} {H H' : Hp} {D p : Addr} {L xs : List V} (b : But D H H') (hD : H D = some (.lst L)) (e : SqT K H p xs) : SqT K H' p xs := by
  rcases e with (e | ⟨z, e⟩) | e
  · exact Or.inl (Or.inl (b _ _ e (ne_of e hD (by intro z; cases z))))
  · exact Or.inl (Or.inr ⟨z, b _ _ e (ne_of e hD (by intro z; cases z))⟩)
  · exact Or.inr e
/-- the parts divided by the powers of a scale -/
def pdv (u : Rat) : Nat → List (Option Rat) → List (Option Rat)
  | _, [] => []
  | k, x :: xs => (x.map fun q => q / u ^ (k + 1)) :: pdv u (k + 1) xs
theorem pdv_at (u : Rat) : ∀ (l : List (Option Rat)) (k i : Nat), (pdv u k l)[i]? = (l[i]?).map fun x => x.map fun q => q / u ^ (k + i + 1)
  | [], _, _ => by simp [pdv]
  | x :: xs, k, 0 => rfl
  | x :: xs, k, i + 1 => by
    rw [pdv, List.getElem?_cons_succ, pdv_at u xs (k + 1) i, List.getElem?_cons_succ, show k + 1 + i + 1 = k + (i + 1) + 1 by omega]
theorem pdv_len (u : Rat) : ∀ (l : List (Option Rat)) (k : Nat), (pdv u k l).length = l.length
  | [], _ => rfl
  | x :: xs, k => by rw [pdv, List.length_cons, List.length_cons, pdv_len u xs (k + 1)]
/-- a change as it stands, its pairs not in lowest terms -/
def ChG (K : PySem.W.Frag) (H : Hp) (p : Addr) (c : Ch) : Prop := ∃ pu pr ps pt, SqT K H p [.ref pu, .ref pr, .ref ps, .ref pt] ∧ PrT K H pu c.u 16 ∧ PrT K H pr c.r 180 ∧ PrT K H ps c.s 45 ∧ PrT K H pt c.t 260
theorem ChG.same {K : PySem.W.Frag} {H H' : Hp} {p : Addr} {c : Ch} (s : Same H H') (h : ChG K H p c) : ChG K H' p c := by
  obtain ⟨a, b, d, e, h1, h2, h3, h4, h5⟩ := h
  exact ⟨a, b, d, e, Same.tup s h1, h2.same s, h3.same s, h4.same s, h5.same s⟩
theorem PrT.but {K : PySem.W.Frag} {H H' : Hp} {D p : Addr} {L : List V} {q : Rat} {m : Nat} (b : But D H H') (hD : H D = some (.lst L)) (h : PrT K H p q m) : PrT K H' p q m := by
  obtain ⟨n, d, h1, h2⟩ := h
  exact ⟨n, d, but_tup b hD h1, h2⟩
theorem PrT.put {K : PySem.W.Frag} {H : Hp} {D p : Addr} {L : List V} {o : HO} {q : Rat} {m : Nat} (hD : H D = some (.lst L)) (h : PrT K H p q m) : PrT K (upd H D o) p q m := by
  obtain ⟨n, d, h1, h2⟩ := h
  exact ⟨n, d, tup_put hD h1, h2⟩
theorem pow_nz {u : Rat} (h : u ≠ 0) : ∀ k : Nat, u ^ k ≠ 0
  | 0 => by rw [Rat.pow_zero]; decide
  | k + 1 => by
    rw [Rat.pow_succ]
    exact qmul_ne (pow_nz h k) h
theorem div_eq {a b c d : Rat} (h : a = b) (k : c = d) : a / c = b / d := by rw [h, k]
section
variable {P : Program} {w : World} {K : PySem.W.Frag} {mg : Str → Option Value} {base : Heap}
def sp_law_led (K : PySem.W.Frag) : Sp := fun vs H Q _ => ∃ (p o : Addr) (c : Cv) (d : Ch), vs = [.ref p, .ref o] ∧ SqT K H p c.tup ∧ CvB 40 c ∧ ChG K H o d ∧ d.u ≠ 0 ∧ ∀ H' t xs, Same H H' → H' t = some (.tup xs) → RfAt K H' xs (qsL d c) → Q (.ref t) H'
abbrev s__law_led : Stmt := topS 66
theorem sc__law_led : FnScope ["five_v", "change", "a1", "a2", "a3", "a4", "a6", "part", "u", "r", "s", "t", "second", "third", "fourth", "gone", "sixth", "found", "scale", "k"] ["five_v", "change"] (defScope s__law_led) := ⟨rfl, rfl, rfl, by decide +kernel, rfl, by decide +kernel, by decide +kernel⟩
theorem k_law_led (T : Tx K mg) (D : Df K mg "_law_led" s__law_led ["five_v", "change"]) (c_law_less : Kl P w K mg base 3 "_law_less" (sp_law_less K)) (c_law_plus : Kl P w K mg base 3 "_law_plus" (sp_law_plus K)) (c_law_by : Kl P w K mg base 3 "_law_by" (sp_law_by K)) (c_law_over : Kl P w K mg base 3 "_law_over" (sp_law_over K)) : Kl P w K mg base 4 "_law_led" (sp_law_led K) := by
  have nd := sc__law_led.nd
  refine Kl.by_body D sc__law_led (fun vs H Q E h => ?_) (fun f cdv A outer s H vs Q E hr h => ?_)
  · obtain ⟨_, _, _, _, rfl, _⟩ := h
    rfl
  · obtain ⟨p, o, c, d, rfl, hp, hc, hd, hu1', q⟩ := h
    have hu1 := hu_of hr
    refine ⟨_, (pss_cons (ps_asg (pe_lc (own := [("part", 7)]) (g := gName 7) rfl nd (pi_tup (pv 0)) (blkOk_by (N := ["five_v", "change", "a1", "a2", "a3", "a4", "a6", "part", "u", "r", "s", "t", "second", "third", "fourth", "gone", "sixth", "found", "scale", "k"]) (sc := defScope s__law_led) (by decide +kernel)) (fun _ _ _ _ _ => (pg_name (i := 7) nd rfl (by first | exact Or.inl rfl | exact Or.inr rfl))) (fun _ _ _ _ _ => pts_nil) (fun _ _ _ _ _ => (pe_tup (pa_cons (pv 7) (pa_cons pe_int pa_nil))))) (pg_lst rfl (pgs_cons (pg_name (i := 2) nd rfl (by first | exact Or.inl rfl | exact Or.inr rfl)) (pgs_cons (pg_name (i := 3) nd rfl (by first | exact Or.inl rfl | exact Or.inr rfl)) (pgs_cons (pg_name (i := 4) nd rfl (by first | exact Or.inl rfl | exact Or.inr rfl)) (pgs_cons (pg_name (i := 5) nd rfl (by first | exact Or.inl rfl | exact Or.inr rfl)) (pgs_cons (pg_name (i := 6) nd rfl (by first | exact Or.inl rfl | exact Or.inr rfl)) pgs_nil)))))))
      (pss_cons (ps_asg (pv 1) (pg_tup rfl (pgs_cons (pg_name (i := 8) nd rfl (by first | exact Or.inl rfl | exact Or.inr rfl)) (pgs_cons (pg_name (i := 9) nd rfl (by first | exact Or.inl rfl | exact Or.inr rfl)) (pgs_cons (pg_name (i := 10) nd rfl (by first | exact Or.inl rfl | exact Or.inr rfl)) (pgs_cons (pg_name (i := 11) nd rfl (by first | exact Or.inl rfl | exact Or.inr rfl)) pgs_nil))))))
      (pss_cons (ps_set (i := 12) nd rfl (by first | exact Or.inl rfl | exact Or.inr rfl) (pe_k c_law_less  hr (by decide) (by rfl) (pa_cons (pe_k c_law_less  hr (by decide) (by rfl) (pa_cons (pe_k c_law_plus  hr (by decide) (by rfl) (pa_cons (pv 3) (pa_cons (pe_k c_law_by  hr (by decide) (by rfl) (pa_cons (pe_tup (pa_cons pe_int (pa_cons pe_int pa_nil))) (pa_cons (pv 9) pa_nil))) pa_nil))) (pa_cons (pe_k c_law_by  hr (by decide) (by rfl) (pa_cons (pv 10) (pa_cons (pv 2) pa_nil))) pa_nil))) (pa_cons (pe_k c_law_by  hr (by decide) (by rfl) (pa_cons (pv 10) (pa_cons (pv 10) pa_nil))) pa_nil))))
      (pss_cons (ps_set (i := 13) nd rfl (by first | exact Or.inl rfl | exact Or.inr rfl) (pe_k c_law_plus  hr (by decide) (by rfl) (pa_cons (pe_k c_law_plus  hr (by decide) (by rfl) (pa_cons (pv 4) (pa_cons (pe_k c_law_by  hr (by decide) (by rfl) (pa_cons (pv 9) (pa_cons (pv 2) pa_nil))) pa_nil))) (pa_cons (pe_k c_law_by  hr (by decide) (by rfl) (pa_cons (pe_tup (pa_cons pe_int (pa_cons pe_int pa_nil))) (pa_cons (pv 11) pa_nil))) pa_nil))))
      (pss_cons (ps_set (i := 14) nd rfl (by first | exact Or.inl rfl | exact Or.inr rfl) (pe_k c_law_plus  hr (by decide) (by rfl) (pa_cons (pe_k c_law_plus  hr (by decide) (by rfl) (pa_cons (pv 5) (pa_cons (pe_k c_law_by  hr (by decide) (by rfl) (pa_cons (pe_tup (pa_cons pe_int (pa_cons pe_int pa_nil))) (pa_cons (pe_k c_law_by  hr (by decide) (by rfl) (pa_cons (pv 9) (pa_cons (pv 3) pa_nil))) pa_nil))) pa_nil))) (pa_cons (pe_k c_law_by  hr (by decide) (by rfl) (pa_cons (pe_tup (pa_cons pe_int (pa_cons pe_int pa_nil))) (pa_cons (pe_k c_law_by  hr (by decide) (by rfl) (pa_cons (pv 9) (pa_cons (pv 9) pa_nil))) pa_nil))) pa_nil))))
      (pss_cons (ps_set (i := 15) nd rfl (by first | exact Or.inl rfl | exact Or.inr rfl) (pe_k c_law_plus  hr (by decide) (by rfl) (pa_cons (pe_k c_law_by  hr (by decide) (by rfl) (pa_cons (pe_k c_law_plus  hr (by decide) (by rfl) (pa_cons (pv 11) (pa_cons (pe_k c_law_by  hr (by decide) (by rfl) (pa_cons (pv 9) (pa_cons (pv 10) pa_nil))) pa_nil))) (pa_cons (pv 2) pa_nil))) (pa_cons (pe_k c_law_by  hr (by decide) (by rfl) (pa_cons (pe_tup (pa_cons pe_int (pa_cons pe_int pa_nil))) (pa_cons (pe_k c_law_by  hr (by decide) (by rfl) (pa_cons (pv 10) (pa_cons (pv 11) pa_nil))) pa_nil))) pa_nil))))
      (pss_cons (ps_set (i := 14) nd rfl (by first | exact Or.inl rfl | exact Or.inr rfl) (pe_k c_law_less  hr (by decide) (by rfl) (pa_cons (pe_k c_law_less  hr (by decide) (by rfl) (pa_cons (pv 14) (pa_cons (pe_k c_law_by  hr (by decide) (by rfl) (pa_cons (pv 10) (pa_cons (pv 4) pa_nil))) pa_nil))) (pa_cons (pv 15) pa_nil))))
      (pss_cons (ps_set (i := 16) nd rfl (by first | exact Or.inl rfl | exact Or.inr rfl) (pe_k c_law_plus  hr (by decide) (by rfl) (pa_cons (pe_k c_law_plus  hr (by decide) (by rfl) (pa_cons (pv 6) (pa_cons (pe_k c_law_by  hr (by decide) (by rfl) (pa_cons (pv 9) (pa_cons (pv 5) pa_nil))) pa_nil))) (pa_cons (pe_k c_law_by  hr (by decide) (by rfl) (pa_cons (pe_k c_law_by  hr (by decide) (by rfl) (pa_cons (pv 9) (pa_cons (pv 9) pa_nil))) (pa_cons (pe_k c_law_plus  hr (by decide) (by rfl) (pa_cons (pv 3) (pa_cons (pv 9) pa_nil))) pa_nil))) pa_nil))))
      (pss_cons (ps_set (i := 16) nd rfl (by first | exact Or.inl rfl | exact Or.inr rfl) (pe_k c_law_less  hr (by decide) (by rfl) (pa_cons (pv 16) (pa_cons (pe_k c_law_by  hr (by decide) (by rfl) (pa_cons (pv 11) (pa_cons (pe_k c_law_plus  hr (by decide) (by rfl) (pa_cons (pe_k c_law_plus  hr (by decide) (by rfl) (pa_cons (pv 4) (pa_cons (pv 11) pa_nil))) (pa_cons (pe_k c_law_by  hr (by decide) (by rfl) (pa_cons (pv 9) (pa_cons (pv 2) pa_nil))) pa_nil))) pa_nil))) pa_nil))))
      (pss_cons (ps_par (i := 17) (j := 18) (by rfl) nd rfl rfl (by decide) rfl rfl (pa_cons (pe_lst pa_nil) (pa_cons (pv 8) pa_nil)) (by rfl))
      (pss_cons (ps_for PassesOwn.never rfl (pi_enum (by rfl) T.enumerate (pa_cons (pe_lst (pa_cons (pe_k c_law_plus  hr (by decide) (by rfl) (pa_cons (pv 2) (pa_cons (pe_k c_law_by  hr (by decide) (by rfl) (pa_cons (pe_tup (pa_cons pe_int (pa_cons pe_int pa_nil))) (pa_cons (pv 10) pa_nil))) pa_nil))) (pa_cons (pv 12) (pa_cons (pv 13) (pa_cons (pv 14) (pa_cons pe_non (pa_cons (pv 16) pa_nil))))))) pa_nil)) (pg_tup rfl (pgs_cons (pg_name (i := 19) nd rfl (by first | exact Or.inl rfl | exact Or.inr rfl)) (pgs_cons (pg_name (i := 7) nd rfl (by first | exact Or.inl rfl | exact Or.inr rfl)) pgs_nil))) (pss_cons (ps_if (pt_cmpR op_notN (pv 7) pe_non (nomark _)) (pss_one (ps_expr (pe_bm PySem.F.plainAttrs_list PySem.F.slot_list_append PySem.F.type_list_append mt_append (pv 17) (pa_cons (pe_k c_law_over  hr (by decide) (by rfl) (pa_cons (pv 7) (pa_cons (pv 18) pa_nil))) pa_nil)))) pss_nil)
      (pss_one (ps_set (i := 18) nd rfl (by first | exact Or.inl rfl | exact Or.inr rfl) (pe_k c_law_by  hr (by decide) (by rfl) (pa_cons (pv 18) (pa_cons (pv 8) pa_nil)))))))
      (pss_one (ps_ret (pe_callTy call_tuple_of (by rfl) T.tuple (by decide +kernel) (pa_cons (pv 17) pa_nil))))))))))))))), ?_⟩
    refine ⟨.ref p, rfl, p, rfl, ⟨_, hp⟩, fun D1 hD1 => ?_⟩
    refine lc_tup (K := K) (a := p) (xs := c.tup) (fun i H4 => Same H H4 ∧ FrD H4 D1 c.ints i) ⟨Same.new hD1, FrD.new⟩ (fun i H4 _ z => Same.tup z.1 hp) (fun i x H4 hi z => ?_) (fun H1 z => ?_)
    · obtain ⟨n, rfl, hn⟩ : ∃ n, x = .int n ∧ c.ints[i]? = some n := by
        rw [Cv.tup_ints, List.getElem?_map] at hi
        cases e : c.ints[i]? with
        | none =>
          rw [e] at hi
          cases hi
        | some y =>
          rw [e] at hi
          exact ⟨y, (Option.some.inj hi).symm, rfl⟩
      have hi5 : i < 5 := (List.getElem?_eq_some_iff.mp hn).1
      refine ⟨rfl, _, rfl, (by show 2 ≤ sizeLine; decide), fun t nt => ?_⟩
      rw [← fq_int n]
      obtain ⟨acc, h1, h2, h3⟩ := FrD.push z.2 hn nt (by omega)
      exact ⟨acc, h1, h2, Same.put (Same.put z.1 (z.1.free nt)) hD1, h3⟩
    obtain ⟨s1, hF1⟩ := z
    obtain ⟨pa1, pa2, pa3, pa4, pa6, gD1, hpa1, hpa2, hpa3, hpa4, hpa6⟩ := hF1.five
    refine ⟨D1, _, rfl, lst_of gD1, rfl, _, _, rfl, _, _, rfl, _, _, rfl, _, _, rfl, _, _, rfl, rfl, ?_⟩
    obtain ⟨pu, pr, ps, pt, ho, hu, hr', hs, ht⟩ := hd.same s1
    first | refine sigN [some (.ref p), some (.ref o), some (.ref pa1), some (.ref pa2), some (.ref pa3), some (.ref pa4), some (.ref pa6), none, none, none, none, none, none, none, none, none, none, none, none, none] (by rfl) ?_ | refine sig [some (.ref p), some (.ref o), some (.ref pa1), some (.ref pa2), some (.ref pa3), some (.ref pa4), some (.ref pa6), none, none, none, none, none, none, none, none, none, none, none, none, none] (by rfl) ?_
    refine ⟨.ref o, rfl, o, _, rfl, ho, rfl, _, _, rfl, _, _, rfl, _, _, rfl, _, _, rfl, rfl, ?_⟩
    first | refine sigN [some (.ref p), some (.ref o), some (.ref pa1), some (.ref pa2), some (.ref pa3), some (.ref pa4), some (.ref pa6), none, some (.ref pu), some (.ref pr), some (.ref ps), some (.ref pt), none, none, none, none, none, none, none, none] (by rfl) ?_ | refine sig [some (.ref p), some (.ref o), some (.ref pa1), some (.ref pa2), some (.ref pa3), some (.ref pa4), some (.ref pa6), none, some (.ref pu), some (.ref pr), some (.ref ps), some (.ref pt), none, none, none, none, none, none, none, none] (by rfl) ?_
    have E0 : FrG K H1 [(pu, d.u, 16), (pr, d.r, 180), (ps, d.s, 45), (pt, d.t, 260), (pa1, (c.a1 : Rat), 40), (pa2, (c.a2 : Rat), 40), (pa3, (c.a3 : Rat), 40), (pa4, (c.a4 : Rat), 40), (pa6, (c.a6 : Rat), 40)] :=
      FrG.addP (FrG.addP (FrG.addP (FrG.addP (FrG.add (FrG.add (FrG.add (FrG.add (FrG.add FrG.nil (tup_of hpa6) (RB.int hc.h6 (by decide))) (tup_of hpa4) (RB.int hc.h4 (by decide))) (tup_of hpa3) (RB.int hc.h3 (by decide))) (tup_of hpa2) (RB.int hc.h2 (by decide))) (tup_of hpa1) (RB.int hc.h1 (by decide))) ht) hs) hr') hu
    clear hpa1 hpa2 hpa3 hpa4 hpa6 gD1 hF1 hD1 ho hu hr' hs ht hd
    refine ⟨.ref pa2, rfl, ?_⟩
    refine ⟨(by show 2 ≤ sizeLine; decide), fun three nthree => ?_⟩
    obtain ⟨H2, eH_, s2, E1⟩ := FG.litE E0 nthree fq_3 rb_three
    rw [eH_]
    clear eH_
    refine ⟨.ref pr, rfl, ?_⟩
    refine ⟨three, pr, _, _, _, _, rfl, E1.get (by walk_at "mm"), E1.get (by walk_at "mm"), E1.rb (p := three) (by walk_at "mm"), E1.rb (p := pr) (by walk_at "mm"), (by first | decide | omega), trivial, fun x1 nx1 => ?_⟩
    obtain ⟨H3, eH_, s3, E2⟩ := FG.stepE E1 nx1 (RB.mul (E1.rb (p := three) (by walk_at "mm")) (E1.rb (p := pr) (by walk_at "mm")))
    rw [eH_]
    clear eH_
    refine ⟨pa2, x1, _, _, _, _, rfl, E2.get (by walk_at "mm"), E2.get (by walk_at "mm"), E2.rb (p := pa2) (by walk_at "mm"), E2.rb (p := x1) (by walk_at "mm"), (by first | decide | omega), trivial, fun x2 nx2 => ?_⟩
    obtain ⟨H4, eH_, s4, E3⟩ := FG.stepE E2 nx2 (RB.add (E2.rb (p := pa2) (by walk_at "mm")) (E2.rb (p := x1) (by walk_at "mm")))
    rw [eH_]
    clear eH_
    refine ⟨.ref ps, rfl, .ref pa1, rfl, ?_⟩
    refine ⟨ps, pa1, _, _, _, _, rfl, E3.get (by walk_at "mm"), E3.get (by walk_at "mm"), E3.rb (p := ps) (by walk_at "mm"), E3.rb (p := pa1) (by walk_at "mm"), (by first | decide | omega), trivial, fun x3 nx3 => ?_⟩
    obtain ⟨H5, eH_, s5, E4⟩ := FG.stepE E3 nx3 (RB.mul (E3.rb (p := ps) (by walk_at "mm")) (E3.rb (p := pa1) (by walk_at "mm")))
    rw [eH_]
    clear eH_
    refine ⟨x2, x3, _, _, _, _, rfl, E4.get (by walk_at "mm"), E4.get (by walk_at "mm"), E4.rb (p := x2) (by walk_at "mm"), E4.rb (p := x3) (by walk_at "mm"), (by first | decide | omega), trivial, fun x4 nx4 => ?_⟩
    obtain ⟨H6, eH_, s6, E5⟩ := FG.stepE E4 nx4 (RB.sub (E4.rb (p := x2) (by walk_at "mm")) (E4.rb (p := x3) (by walk_at "mm")))
    rw [eH_]
    clear eH_
    refine ⟨.ref ps, rfl, .ref ps, rfl, ?_⟩
    refine ⟨ps, ps, _, _, _, _, rfl, E5.get (by walk_at "mm"), E5.get (by walk_at "mm"), E5.rb (p := ps) (by walk_at "mm"), E5.rb (p := ps) (by walk_at "mm"), (by first | decide | omega), trivial, fun x5 nx5 => ?_⟩
    obtain ⟨H7, eH_, s7, E6⟩ := FG.stepE E5 nx5 (RB.mul (E5.rb (p := ps) (by walk_at "mm")) (E5.rb (p := ps) (by walk_at "mm")))
    rw [eH_]
    clear eH_
    refine ⟨x4, x5, _, _, _, _, rfl, E6.get (by walk_at "mm"), E6.get (by walk_at "mm"), E6.rb (p := x4) (by walk_at "mm"), E6.rb (p := x5) (by walk_at "mm"), (by first | decide | omega), trivial, fun second nsecond => ?_⟩
    obtain ⟨H8, eH_, s8, E7⟩ := FG.stepE E6 nsecond (RB.sub (E6.rb (p := x4) (by walk_at "mm")) (E6.rb (p := x5) (by walk_at "mm")))
    rw [eH_]
    clear eH_
    first | refine sigN [some (.ref p), some (.ref o), some (.ref pa1), some (.ref pa2), some (.ref pa3), some (.ref pa4), some (.ref pa6), none, some (.ref pu), some (.ref pr), some (.ref ps), some (.ref pt), some (.ref second), none, none, none, none, none, none, none] (by rfl) ?_ | refine sig [some (.ref p), some (.ref o), some (.ref pa1), some (.ref pa2), some (.ref pa3), some (.ref pa4), some (.ref pa6), none, some (.ref pu), some (.ref pr), some (.ref ps), some (.ref pt), some (.ref second), none, none, none, none, none, none, none] (by rfl) ?_
    have sA := s1.trans (s2.trans (s3.trans (s4.trans (s5.trans (s6.trans (s7.trans s8))))))
    clear s1 s2 s3 s4 s5 s6 s7 s8 E0 E1 E2 E3 E4 E5 E6
    refine ⟨.ref pa3, rfl, .ref pr, rfl, .ref pa1, rfl, ?_⟩
    refine ⟨pr, pa1, _, _, _, _, rfl, E7.get (by walk_at "mm"), E7.get (by walk_at "mm"), E7.rb (p := pr) (by walk_at "mm"), E7.rb (p := pa1) (by walk_at "mm"), (by first | decide | omega), trivial, fun y1 ny1 => ?_⟩
    obtain ⟨H9, eH_, t1, F1⟩ := FG.stepE E7 ny1 (RB.mul (E7.rb (p := pr) (by walk_at "mm")) (E7.rb (p := pa1) (by walk_at "mm")))
    rw [eH_]
    clear eH_
    refine ⟨pa3, y1, _, _, _, _, rfl, F1.get (by walk_at "mm"), F1.get (by walk_at "mm"), F1.rb (p := pa3) (by walk_at "mm"), F1.rb (p := y1) (by walk_at "mm"), (by first | decide | omega), trivial, fun y2 ny2 => ?_⟩
    obtain ⟨Ha, eH_, t2, F2⟩ := FG.stepE F1 ny2 (RB.add (F1.rb (p := pa3) (by walk_at "mm")) (F1.rb (p := y1) (by walk_at "mm")))
    rw [eH_]
    clear eH_
    refine ⟨(by show 2 ≤ sizeLine; decide), fun two ntwo => ?_⟩
    obtain ⟨Hb, eH_, t3, F3⟩ := FG.litE F2 ntwo fq_2 rb_two
    rw [eH_]
    clear eH_
    refine ⟨.ref pt, rfl, ?_⟩
    refine ⟨two, pt, _, _, _, _, rfl, F3.get (by walk_at "mm"), F3.get (by walk_at "mm"), F3.rb (p := two) (by walk_at "mm"), F3.rb (p := pt) (by walk_at "mm"), (by first | decide | omega), trivial, fun y3 ny3 => ?_⟩
    obtain ⟨Hc, eH_, t4, F4⟩ := FG.stepE F3 ny3 (RB.mul (F3.rb (p := two) (by walk_at "mm")) (F3.rb (p := pt) (by walk_at "mm")))
    rw [eH_]
    clear eH_
    refine ⟨y2, y3, _, _, _, _, rfl, F4.get (by walk_at "mm"), F4.get (by walk_at "mm"), F4.rb (p := y2) (by walk_at "mm"), F4.rb (p := y3) (by walk_at "mm"), (by first | decide | omega), trivial, fun third nthird => ?_⟩
    obtain ⟨Hd, eH_, t5, F5⟩ := FG.stepE F4 nthird (RB.add (F4.rb (p := y2) (by walk_at "mm")) (F4.rb (p := y3) (by walk_at "mm")))
    rw [eH_]
    clear eH_
    first | refine sigN [some (.ref p), some (.ref o), some (.ref pa1), some (.ref pa2), some (.ref pa3), some (.ref pa4), some (.ref pa6), none, some (.ref pu), some (.ref pr), some (.ref ps), some (.ref pt), some (.ref second), some (.ref third), none, none, none, none, none, none] (by rfl) ?_ | refine sig [some (.ref p), some (.ref o), some (.ref pa1), some (.ref pa2), some (.ref pa3), some (.ref pa4), some (.ref pa6), none, some (.ref pu), some (.ref pr), some (.ref ps), some (.ref pt), some (.ref second), some (.ref third), none, none, none, none, none, none] (by rfl) ?_
    have sB := sA.trans (t1.trans (t2.trans (t3.trans (t4.trans t5))))
    clear t1 t2 t3 t4 t5 E7 F1 F2 F3 F4 sA
    refine ⟨.ref pa4, rfl, ?_⟩
    refine ⟨(by show 2 ≤ sizeLine; decide), fun twob ntwob => ?_⟩
    obtain ⟨He, eH_, u1, G1⟩ := FG.litE F5 ntwob fq_2 rb_two
    rw [eH_]
    clear eH_
    refine ⟨.ref pr, rfl, .ref pa2, rfl, ?_⟩
    refine ⟨pr, pa2, _, _, _, _, rfl, G1.get (by walk_at "mm"), G1.get (by walk_at "mm"), G1.rb (p := pr) (by walk_at "mm"), G1.rb (p := pa2) (by walk_at "mm"), (by first | decide | omega), trivial, fun z1 nz1 => ?_⟩
    obtain ⟨Hf, eH_, u2, G2⟩ := FG.stepE G1 nz1 (RB.mul (G1.rb (p := pr) (by walk_at "mm")) (G1.rb (p := pa2) (by walk_at "mm")))
    rw [eH_]
    clear eH_
    refine ⟨twob, z1, _, _, _, _, rfl, G2.get (by walk_at "mm"), G2.get (by walk_at "mm"), G2.rb (p := twob) (by walk_at "mm"), G2.rb (p := z1) (by walk_at "mm"), (by first | decide | omega), trivial, fun z2 nz2 => ?_⟩
    obtain ⟨Hg, eH_, u3, G3⟩ := FG.stepE G2 nz2 (RB.mul (G2.rb (p := twob) (by walk_at "mm")) (G2.rb (p := z1) (by walk_at "mm")))
    rw [eH_]
    clear eH_
    refine ⟨pa4, z2, _, _, _, _, rfl, G3.get (by walk_at "mm"), G3.get (by walk_at "mm"), G3.rb (p := pa4) (by walk_at "mm"), G3.rb (p := z2) (by walk_at "mm"), (by first | decide | omega), trivial, fun z3 nz3 => ?_⟩
    obtain ⟨Hh, eH_, u4, G4⟩ := FG.stepE G3 nz3 (RB.add (G3.rb (p := pa4) (by walk_at "mm")) (G3.rb (p := z2) (by walk_at "mm")))
    rw [eH_]
    clear eH_
    refine ⟨(by show 2 ≤ sizeLine; decide), fun threeb nthreeb => ?_⟩
    obtain ⟨Hi, eH_, u5, G5⟩ := FG.litE G4 nthreeb fq_3 rb_three
    rw [eH_]
    clear eH_
    refine ⟨.ref pr, rfl, .ref pr, rfl, ?_⟩
    refine ⟨pr, pr, _, _, _, _, rfl, G5.get (by walk_at "mm"), G5.get (by walk_at "mm"), G5.rb (p := pr) (by walk_at "mm"), G5.rb (p := pr) (by walk_at "mm"), (by first | decide | omega), trivial, fun z4 nz4 => ?_⟩
    obtain ⟨Hj, eH_, u6, G6⟩ := FG.stepE G5 nz4 (RB.mul (G5.rb (p := pr) (by walk_at "mm")) (G5.rb (p := pr) (by walk_at "mm")))
    rw [eH_]
    clear eH_
    refine ⟨threeb, z4, _, _, _, _, rfl, G6.get (by walk_at "mm"), G6.get (by walk_at "mm"), G6.rb (p := threeb) (by walk_at "mm"), G6.rb (p := z4) (by walk_at "mm"), (by first | decide | omega), trivial, fun z5 nz5 => ?_⟩
    obtain ⟨Hk, eH_, u7, G7⟩ := FG.stepE G6 nz5 (RB.mul (G6.rb (p := threeb) (by walk_at "mm")) (G6.rb (p := z4) (by walk_at "mm")))
    rw [eH_]
    clear eH_
    refine ⟨z3, z5, _, _, _, _, rfl, G7.get (by walk_at "mm"), G7.get (by walk_at "mm"), G7.rb (p := z3) (by walk_at "mm"), G7.rb (p := z5) (by walk_at "mm"), (by first | decide | omega), trivial, fun fourtha nfourtha => ?_⟩
    obtain ⟨Hl, eH_, u8, G8⟩ := FG.stepE G7 nfourtha (RB.add (G7.rb (p := z3) (by walk_at "mm")) (G7.rb (p := z5) (by walk_at "mm")))
    rw [eH_]
    clear eH_
    first | refine sigN [some (.ref p), some (.ref o), some (.ref pa1), some (.ref pa2), some (.ref pa3), some (.ref pa4), some (.ref pa6), none, some (.ref pu), some (.ref pr), some (.ref ps), some (.ref pt), some (.ref second), some (.ref third), some (.ref fourtha), none, none, none, none, none] (by rfl) ?_ | refine sig [some (.ref p), some (.ref o), some (.ref pa1), some (.ref pa2), some (.ref pa3), some (.ref pa4), some (.ref pa6), none, some (.ref pu), some (.ref pr), some (.ref ps), some (.ref pt), some (.ref second), some (.ref third), some (.ref fourtha), none, none, none, none, none] (by rfl) ?_
    have sC := sB.trans (u1.trans (u2.trans (u3.trans (u4.trans (u5.trans (u6.trans (u7.trans u8)))))))
    clear u1 u2 u3 u4 u5 u6 u7 u8 F5 G1 G2 G3 G4 G5 G6 G7 sB
    refine ⟨.ref pt, rfl, .ref pr, rfl, .ref ps, rfl, ?_⟩
    refine ⟨pr, ps, _, _, _, _, rfl, G8.get (by walk_at "mm"), G8.get (by walk_at "mm"), G8.rb (p := pr) (by walk_at "mm"), G8.rb (p := ps) (by walk_at "mm"), (by first | decide | omega), trivial, fun w1 nw1 => ?_⟩
    obtain ⟨Hm, eH_, v1, J1⟩ := FG.stepE G8 nw1 (RB.mul (G8.rb (p := pr) (by walk_at "mm")) (G8.rb (p := ps) (by walk_at "mm")))
    rw [eH_]
    clear eH_
    refine ⟨pt, w1, _, _, _, _, rfl, J1.get (by walk_at "mm"), J1.get (by walk_at "mm"), J1.rb (p := pt) (by walk_at "mm"), J1.rb (p := w1) (by walk_at "mm"), (by first | decide | omega), trivial, fun w2 nw2 => ?_⟩
    obtain ⟨Hn, eH_, v2, J2⟩ := FG.stepE J1 nw2 (RB.add (J1.rb (p := pt) (by walk_at "mm")) (J1.rb (p := w1) (by walk_at "mm")))
    rw [eH_]
    clear eH_
    refine ⟨.ref pa1, rfl, ?_⟩
    refine ⟨w2, pa1, _, _, _, _, rfl, J2.get (by walk_at "mm"), J2.get (by walk_at "mm"), J2.rb (p := w2) (by walk_at "mm"), J2.rb (p := pa1) (by walk_at "mm"), (by first | decide | omega), trivial, fun w3 nw3 => ?_⟩
    obtain ⟨Ho, eH_, v3, J3⟩ := FG.stepE J2 nw3 (RB.mul (J2.rb (p := w2) (by walk_at "mm")) (J2.rb (p := pa1) (by walk_at "mm")))
    rw [eH_]
    clear eH_
    refine ⟨(by show 2 ≤ sizeLine; decide), fun twoc ntwoc => ?_⟩
    obtain ⟨Hp2, eH_, v4, J4⟩ := FG.litE J3 ntwoc fq_2 rb_two
    rw [eH_]
    clear eH_
    refine ⟨.ref ps, rfl, .ref pt, rfl, ?_⟩
    refine ⟨ps, pt, _, _, _, _, rfl, J4.get (by walk_at "mm"), J4.get (by walk_at "mm"), J4.rb (p := ps) (by walk_at "mm"), J4.rb (p := pt) (by walk_at "mm"), (by first | decide | omega), trivial, fun w4 nw4 => ?_⟩
    obtain ⟨Hq, eH_, v5, J5⟩ := FG.stepE J4 nw4 (RB.mul (J4.rb (p := ps) (by walk_at "mm")) (J4.rb (p := pt) (by walk_at "mm")))
    rw [eH_]
    clear eH_
    refine ⟨twoc, w4, _, _, _, _, rfl, J5.get (by walk_at "mm"), J5.get (by walk_at "mm"), J5.rb (p := twoc) (by walk_at "mm"), J5.rb (p := w4) (by walk_at "mm"), (by first | decide | omega), trivial, fun w5 nw5 => ?_⟩
    obtain ⟨Hr, eH_, v6, J6⟩ := FG.stepE J5 nw5 (RB.mul (J5.rb (p := twoc) (by walk_at "mm")) (J5.rb (p := w4) (by walk_at "mm")))
    rw [eH_]
    clear eH_
    refine ⟨w3, w5, _, _, _, _, rfl, J6.get (by walk_at "mm"), J6.get (by walk_at "mm"), J6.rb (p := w3) (by walk_at "mm"), J6.rb (p := w5) (by walk_at "mm"), (by first | decide | omega), trivial, fun gone ngone => ?_⟩
    obtain ⟨Hs, eH_, v7, J7⟩ := FG.stepE J6 ngone (RB.add (J6.rb (p := w3) (by walk_at "mm")) (J6.rb (p := w5) (by walk_at "mm")))
    rw [eH_]
    clear eH_
    first | refine sigN [some (.ref p), some (.ref o), some (.ref pa1), some (.ref pa2), some (.ref pa3), some (.ref pa4), some (.ref pa6), none, some (.ref pu), some (.ref pr), some (.ref ps), some (.ref pt), some (.ref second), some (.ref third), some (.ref fourtha), some (.ref gone), none, none, none, none] (by rfl) ?_ | refine sig [some (.ref p), some (.ref o), some (.ref pa1), some (.ref pa2), some (.ref pa3), some (.ref pa4), some (.ref pa6), none, some (.ref pu), some (.ref pr), some (.ref ps), some (.ref pt), some (.ref second), some (.ref third), some (.ref fourtha), some (.ref gone), none, none, none, none] (by rfl) ?_
    have sD := sC.trans (v1.trans (v2.trans (v3.trans (v4.trans (v5.trans (v6.trans v7))))))
    clear v1 v2 v3 v4 v5 v6 v7 G8 J1 J2 J3 J4 J5 J6 sC
    refine ⟨.ref fourtha, rfl, .ref ps, rfl, .ref pa3, rfl, ?_⟩
    refine ⟨ps, pa3, _, _, _, _, rfl, J7.get (by walk_at "mm"), J7.get (by walk_at "mm"), J7.rb (p := ps) (by walk_at "mm"), J7.rb (p := pa3) (by walk_at "mm"), (by first | decide | omega), trivial, fun m1 nm1 => ?_⟩
    obtain ⟨Ht, eH_, n1, N1⟩ := FG.stepE J7 nm1 (RB.mul (J7.rb (p := ps) (by walk_at "mm")) (J7.rb (p := pa3) (by walk_at "mm")))
    rw [eH_]
    clear eH_
    refine ⟨fourtha, m1, _, _, _, _, rfl, N1.get (by walk_at "mm"), N1.get (by walk_at "mm"), N1.rb (p := fourtha) (by walk_at "mm"), N1.rb (p := m1) (by walk_at "mm"), (by first | decide | omega), trivial, fun m2 nm2 => ?_⟩
    obtain ⟨Hu, eH_, n2, N2⟩ := FG.stepE N1 nm2 (RB.sub (N1.rb (p := fourtha) (by walk_at "mm")) (N1.rb (p := m1) (by walk_at "mm")))
    rw [eH_]
    clear eH_
    refine ⟨.ref gone, rfl, ?_⟩
    refine ⟨m2, gone, _, _, _, _, rfl, N2.get (by walk_at "mm"), N2.get (by walk_at "mm"), N2.rb (p := m2) (by walk_at "mm"), N2.rb (p := gone) (by walk_at "mm"), (by first | decide | omega), trivial, fun fourth nfourth => ?_⟩
    obtain ⟨Hv, eH_, n3, N3⟩ := FG.stepE N2 nfourth (RB.sub (N2.rb (p := m2) (by walk_at "mm")) (N2.rb (p := gone) (by walk_at "mm")))
    rw [eH_]
    clear eH_
    first | refine sigN [some (.ref p), some (.ref o), some (.ref pa1), some (.ref pa2), some (.ref pa3), some (.ref pa4), some (.ref pa6), none, some (.ref pu), some (.ref pr), some (.ref ps), some (.ref pt), some (.ref second), some (.ref third), some (.ref fourth), some (.ref gone), none, none, none, none] (by rfl) ?_ | refine sig [some (.ref p), some (.ref o), some (.ref pa1), some (.ref pa2), some (.ref pa3), some (.ref pa4), some (.ref pa6), none, some (.ref pu), some (.ref pr), some (.ref ps), some (.ref pt), some (.ref second), some (.ref third), some (.ref fourth), some (.ref gone), none, none, none, none] (by rfl) ?_
    have sE := sD.trans (n1.trans (n2.trans n3))
    clear n1 n2 n3 J7 N1 N2 sD
    refine ⟨.ref pa6, rfl, .ref pr, rfl, .ref pa4, rfl, ?_⟩
    refine ⟨pr, pa4, _, _, _, _, rfl, N3.get (by walk_at "mm"), N3.get (by walk_at "mm"), N3.rb (p := pr) (by walk_at "mm"), N3.rb (p := pa4) (by walk_at "mm"), (by first | decide | omega), trivial, fun o1 no1 => ?_⟩
    obtain ⟨Hw, eH_, p1, P1⟩ := FG.stepE N3 no1 (RB.mul (N3.rb (p := pr) (by walk_at "mm")) (N3.rb (p := pa4) (by walk_at "mm")))
    rw [eH_]
    clear eH_
    refine ⟨pa6, o1, _, _, _, _, rfl, P1.get (by walk_at "mm"), P1.get (by walk_at "mm"), P1.rb (p := pa6) (by walk_at "mm"), P1.rb (p := o1) (by walk_at "mm"), (by first | decide | omega), trivial, fun o2 no2 => ?_⟩
    obtain ⟨Hx, eH_, p2, P2⟩ := FG.stepE P1 no2 (RB.add (P1.rb (p := pa6) (by walk_at "mm")) (P1.rb (p := o1) (by walk_at "mm")))
    rw [eH_]
    clear eH_
    refine ⟨.ref pr, rfl, .ref pr, rfl, ?_⟩
    refine ⟨pr, pr, _, _, _, _, rfl, P2.get (by walk_at "mm"), P2.get (by walk_at "mm"), P2.rb (p := pr) (by walk_at "mm"), P2.rb (p := pr) (by walk_at "mm"), (by first | decide | omega), trivial, fun o3 no3 => ?_⟩
    obtain ⟨Hy, eH_, p3, P3⟩ := FG.stepE P2 no3 (RB.mul (P2.rb (p := pr) (by walk_at "mm")) (P2.rb (p := pr) (by walk_at "mm")))
    rw [eH_]
    clear eH_
    refine ⟨.ref pa2, rfl, .ref pr, rfl, ?_⟩
    refine ⟨pa2, pr, _, _, _, _, rfl, P3.get (by walk_at "mm"), P3.get (by walk_at "mm"), P3.rb (p := pa2) (by walk_at "mm"), P3.rb (p := pr) (by walk_at "mm"), (by first | decide | omega), trivial, fun o4 no4 => ?_⟩
    obtain ⟨Hz, eH_, p4, P4⟩ := FG.stepE P3 no4 (RB.add (P3.rb (p := pa2) (by walk_at "mm")) (P3.rb (p := pr) (by walk_at "mm")))
    rw [eH_]
    clear eH_
    refine ⟨o3, o4, _, _, _, _, rfl, P4.get (by walk_at "mm"), P4.get (by walk_at "mm"), P4.rb (p := o3) (by walk_at "mm"), P4.rb (p := o4) (by walk_at "mm"), (by first | decide | omega), trivial, fun o5 no5 => ?_⟩
    obtain ⟨I1, eH_, p5, P5⟩ := FG.stepE P4 no5 (RB.mul (P4.rb (p := o3) (by walk_at "mm")) (P4.rb (p := o4) (by walk_at "mm")))
    rw [eH_]
    clear eH_
    refine ⟨o2, o5, _, _, _, _, rfl, P5.get (by walk_at "mm"), P5.get (by walk_at "mm"), P5.rb (p := o2) (by walk_at "mm"), P5.rb (p := o5) (by walk_at "mm"), (by first | decide | omega), trivial, fun sixtha nsixtha => ?_⟩
    obtain ⟨I2, eH_, p6, P6⟩ := FG.stepE P5 nsixtha (RB.add (P5.rb (p := o2) (by walk_at "mm")) (P5.rb (p := o5) (by walk_at "mm")))
    rw [eH_]
    clear eH_
    first | refine sigN [some (.ref p), some (.ref o), some (.ref pa1), some (.ref pa2), some (.ref pa3), some (.ref pa4), some (.ref pa6), none, some (.ref pu), some (.ref pr), some (.ref ps), some (.ref pt), some (.ref second), some (.ref third), some (.ref fourth), some (.ref gone), some (.ref sixtha), none, none, none] (by rfl) ?_ | refine sig [some (.ref p), some (.ref o), some (.ref pa1), some (.ref pa2), some (.ref pa3), some (.ref pa4), some (.ref pa6), none, some (.ref pu), some (.ref pr), some (.ref ps), some (.ref pt), some (.ref second), some (.ref third), some (.ref fourth), some (.ref gone), some (.ref sixtha), none, none, none] (by rfl) ?_
    have sF := sE.trans (p1.trans (p2.trans (p3.trans (p4.trans (p5.trans p6)))))
    clear p1 p2 p3 p4 p5 p6 N3 P1 P2 P3 P4 P5 sE
    refine ⟨.ref sixtha, rfl, .ref pt, rfl, .ref pa3, rfl, .ref pt, rfl, ?_⟩
    refine ⟨pa3, pt, _, _, _, _, rfl, P6.get (by walk_at "mm"), P6.get (by walk_at "mm"), P6.rb (p := pa3) (by walk_at "mm"), P6.rb (p := pt) (by walk_at "mm"), (by first | decide | omega), trivial, fun r1 nr1 => ?_⟩
    obtain ⟨I3, eH_, k1, R1⟩ := FG.stepE P6 nr1 (RB.add (P6.rb (p := pa3) (by walk_at "mm")) (P6.rb (p := pt) (by walk_at "mm")))
    rw [eH_]
    clear eH_
    refine ⟨.ref pr, rfl, .ref pa1, rfl, ?_⟩
    refine ⟨pr, pa1, _, _, _, _, rfl, R1.get (by walk_at "mm"), R1.get (by walk_at "mm"), R1.rb (p := pr) (by walk_at "mm"), R1.rb (p := pa1) (by walk_at "mm"), (by first | decide | omega), trivial, fun r2 nr2 => ?_⟩
    obtain ⟨I4, eH_, k2, R2⟩ := FG.stepE R1 nr2 (RB.mul (R1.rb (p := pr) (by walk_at "mm")) (R1.rb (p := pa1) (by walk_at "mm")))
    rw [eH_]
    clear eH_
    refine ⟨r1, r2, _, _, _, _, rfl, R2.get (by walk_at "mm"), R2.get (by walk_at "mm"), R2.rb (p := r1) (by walk_at "mm"), R2.rb (p := r2) (by walk_at "mm"), (by first | decide | omega), trivial, fun r3 nr3 => ?_⟩
    obtain ⟨I5, eH_, k3, R3⟩ := FG.stepE R2 nr3 (RB.add (R2.rb (p := r1) (by walk_at "mm")) (R2.rb (p := r2) (by walk_at "mm")))
    rw [eH_]
    clear eH_
    refine ⟨pt, r3, _, _, _, _, rfl, R3.get (by walk_at "mm"), R3.get (by walk_at "mm"), R3.rb (p := pt) (by walk_at "mm"), R3.rb (p := r3) (by walk_at "mm"), (by first | decide | omega), trivial, fun r4 nr4 => ?_⟩
    obtain ⟨I6, eH_, k4, R4⟩ := FG.stepE R3 nr4 (RB.mul (R3.rb (p := pt) (by walk_at "mm")) (R3.rb (p := r3) (by walk_at "mm")))
    rw [eH_]
    clear eH_
    refine ⟨sixtha, r4, _, _, _, _, rfl, R4.get (by walk_at "mm"), R4.get (by walk_at "mm"), R4.rb (p := sixtha) (by walk_at "mm"), R4.rb (p := r4) (by walk_at "mm"), (by first | decide | omega), trivial, fun sixth nsixth => ?_⟩
    obtain ⟨I7, eH_, k5, R5⟩ := FG.stepE R4 nsixth (RB.sub (R4.rb (p := sixtha) (by walk_at "mm")) (R4.rb (p := r4) (by walk_at "mm")))
    rw [eH_]
    clear eH_
    first | refine sigN [some (.ref p), some (.ref o), some (.ref pa1), some (.ref pa2), some (.ref pa3), some (.ref pa4), some (.ref pa6), none, some (.ref pu), some (.ref pr), some (.ref ps), some (.ref pt), some (.ref second), some (.ref third), some (.ref fourth), some (.ref gone), some (.ref sixth), none, none, none] (by rfl) ?_ | refine sig [some (.ref p), some (.ref o), some (.ref pa1), some (.ref pa2), some (.ref pa3), some (.ref pa4), some (.ref pa6), none, some (.ref pu), some (.ref pr), some (.ref ps), some (.ref pt), some (.ref second), some (.ref third), some (.ref fourth), some (.ref gone), some (.ref sixth), none, none, none] (by rfl) ?_
    have sG := sF.trans (k1.trans (k2.trans (k3.trans (k4.trans k5))))
    clear k1 k2 k3 k4 k5 P6 R1 R2 R3 R4 sF
    refine ⟨(by show 0 ≤ sizeLine; decide), fun D hD => ?_⟩
    have S0 := R5.same (Same.new (o := .lst []) hD)
    have sH := sG.trans (Same.new (o := .lst []) hD)
    have gD : (upd I7 D (.lst [])) D = some (.lst []) := upd_same
    have nDH : H D = none := sG.free hD
    generalize upd I7 D (.lst []) = I8 at S0 sH gD ⊢
    refine ⟨.ref pu, rfl, _, _, rfl, ?_⟩
    first | refine sigN [some (.ref p), some (.ref o), some (.ref pa1), some (.ref pa2), some (.ref pa3), some (.ref pa4), some (.ref pa6), none, some (.ref pu), some (.ref pr), some (.ref ps), some (.ref pt), some (.ref second), some (.ref third), some (.ref fourth), some (.ref gone), some (.ref sixth), some (.ref D), some (.ref pu), none] (by rfl) ?_ | refine sig [some (.ref p), some (.ref o), some (.ref pa1), some (.ref pa2), some (.ref pa3), some (.ref pa4), some (.ref pa6), none, some (.ref pu), some (.ref pr), some (.ref ps), some (.ref pt), some (.ref second), some (.ref third), some (.ref fourth), some (.ref gone), some (.ref sixth), some (.ref D), some (.ref pu), none] (by rfl) ?_
    clear R5 sG hD
    refine ⟨.ref pa1, rfl, ?_⟩
    refine ⟨(by show 2 ≤ sizeLine; decide), fun twod ntwod => ?_⟩
    obtain ⟨Ia, eH_, a1, S1⟩ := FG.litE S0 ntwod fq_2 rb_two
    rw [eH_]
    clear eH_
    refine ⟨.ref ps, rfl, ?_⟩
    refine ⟨twod, ps, _, _, _, _, rfl, S1.get (by walk_at "mm"), S1.get (by walk_at "mm"), S1.rb (p := twod) (by walk_at "mm"), S1.rb (p := ps) (by walk_at "mm"), (by first | decide | omega), trivial, fun f1 nf1 => ?_⟩
    obtain ⟨Ib, eH_, a2, S2⟩ := FG.stepE S1 nf1 (RB.mul (S1.rb (p := twod) (by walk_at "mm")) (S1.rb (p := ps) (by walk_at "mm")))
    rw [eH_]
    clear eH_
    refine ⟨pa1, f1, _, _, _, _, rfl, S2.get (by walk_at "mm"), S2.get (by walk_at "mm"), S2.rb (p := pa1) (by walk_at "mm"), S2.rb (p := f1) (by walk_at "mm"), (by first | decide | omega), trivial, fun first nfirst => ?_⟩
    obtain ⟨Ic, eH_, a3, S3⟩ := FG.stepE S2 nfirst (RB.add (S2.rb (p := pa1) (by walk_at "mm")) (S2.rb (p := f1) (by walk_at "mm")))
    rw [eH_]
    clear eH_
    refine ⟨.ref second, rfl, .ref third, rfl, .ref fourth, rfl, .ref sixth, rfl, (by show 6 ≤ sizeLine; decide), fun la nla => ?_⟩
    have gD2 := a3 _ _ (a2 _ _ (a1 _ _ gD))
    have sI := sH.trans (a1.trans (a2.trans a3))
    have hps : PsAt K Ic [.ref first, .ref second, .ref third, .ref fourth, .non, .ref sixth] [some ((c.a1 : Rat) + 2 * d.s), some ((c.a2 : Rat) + 3 * d.r - d.s * (c.a1 : Rat) - d.s * d.s), some ((c.a3 : Rat) + d.r * (c.a1 : Rat) + 2 * d.t), some ((c.a4 : Rat) + 2 * (d.r * (c.a2 : Rat)) + 3 * (d.r * d.r) - d.s * (c.a3 : Rat) - ((d.t + d.r * d.s) * (c.a1 : Rat) + 2 * (d.s * d.t))), none, some ((c.a6 : Rat) + d.r * (c.a4 : Rat) + d.r * d.r * ((c.a2 : Rat) + d.r) - d.t * ((c.a3 : Rat) + d.t + d.r * (c.a1 : Rat)))] :=
      .some (.some (.some (.some (.none (.some .nil ((S3.get (p := sixth) (by walk_at "mm")).up (by decide)))) ((S3.get (p := fourth) (by walk_at "mm")).up (by decide))) ((S3.get (p := third) (by walk_at "mm")).up (by decide))) ((S3.get (p := second) (by walk_at "mm")).up (by decide))) ((S3.get (p := first) (by walk_at "mm")).up (by decide))
    have hpu : PrT K Ic pu d.u 16 := S3.get (p := pu) (by walk_at "mm")
    clear S0 S1 S2 S3 a1 a2 a3 gD sH
    have hq : qsL d c = (pdv d.u 0 ([some ((c.a1 : Rat) + 2 * d.s), some ((c.a2 : Rat) + 3 * d.r - d.s * (c.a1 : Rat) - d.s * d.s), some ((c.a3 : Rat) + d.r * (c.a1 : Rat) + 2 * d.t), some ((c.a4 : Rat) + 2 * (d.r * (c.a2 : Rat)) + 3 * (d.r * d.r) - d.s * (c.a3 : Rat) - ((d.t + d.r * d.s) * (c.a1 : Rat) + 2 * (d.s * d.t))), none, some ((c.a6 : Rat) + d.r * (c.a4 : Rat) + d.r * d.r * ((c.a2 : Rat) + d.r) - d.t * ((c.a3 : Rat) + d.t + d.r * (c.a1 : Rat)))] : List (Option Rat))).filterMap id := by
      show qsL d c = [((c.a1 : Rat) + 2 * d.s) / d.u ^ (0 + 1), ((c.a2 : Rat) + 3 * d.r - d.s * (c.a1 : Rat) - d.s * d.s) / d.u ^ (0 + 1 + 1), ((c.a3 : Rat) + d.r * (c.a1 : Rat) + 2 * d.t) / d.u ^ (0 + 1 + 1 + 1), ((c.a4 : Rat) + 2 * (d.r * (c.a2 : Rat)) + 3 * (d.r * d.r) - d.s * (c.a3 : Rat) - ((d.t + d.r * d.s) * (c.a1 : Rat) + 2 * (d.s * d.t))) / d.u ^ (0 + 1 + 1 + 1 + 1), ((c.a6 : Rat) + d.r * (c.a4 : Rat) + d.r * d.r * ((c.a2 : Rat) + d.r) - d.t * ((c.a3 : Rat) + d.t + d.r * (c.a1 : Rat))) / d.u ^ (0 + 1 + 1 + 1 + 1 + 1 + 1)]
      unfold qsL l1 l2 l3 l4 l6
      simp only [List.cons.injEq, and_true]
      refine ⟨div_eq ?_ ?_, div_eq ?_ ?_, div_eq ?_ ?_, div_eq ?_ ?_, div_eq ?_ ?_⟩ <;> grind
    rw [hq] at q
    clear hq
    have hPSl : ([some ((c.a1 : Rat) + 2 * d.s), some ((c.a2 : Rat) + 3 * d.r - d.s * (c.a1 : Rat) - d.s * d.s), some ((c.a3 : Rat) + d.r * (c.a1 : Rat) + 2 * d.t), some ((c.a4 : Rat) + 2 * (d.r * (c.a2 : Rat)) + 3 * (d.r * d.r) - d.s * (c.a3 : Rat) - ((d.t + d.r * d.s) * (c.a1 : Rat) + 2 * (d.s * d.t))), none, some ((c.a6 : Rat) + d.r * (c.a4 : Rat) + d.r * d.r * ((c.a2 : Rat) + d.r) - d.t * ((c.a3 : Rat) + d.t + d.r * (c.a1 : Rat)))] : List (Option Rat)).length = 6 := rfl
    generalize ([some ((c.a1 : Rat) + 2 * d.s), some ((c.a2 : Rat) + 3 * d.r - d.s * (c.a1 : Rat) - d.s * d.s), some ((c.a3 : Rat) + d.r * (c.a1 : Rat) + 2 * d.t), some ((c.a4 : Rat) + 2 * (d.r * (c.a2 : Rat)) + 3 * (d.r * d.r) - d.s * (c.a3 : Rat) - ((d.t + d.r * d.s) * (c.a1 : Rat) + 2 * (d.s * d.t))), none, some ((c.a6 : Rat) + d.r * (c.a4 : Rat) + d.r * d.r * ((c.a2 : Rat) + d.r) - d.t * ((c.a3 : Rat) + d.t + d.r * (c.a1 : Rat)))] : List (Option Rat)) = PS at hps q hPSl
    have sJ := sI.trans (Same.new (o := .lst [.ref first, .ref second, .ref third, .ref fourth, .non, .ref sixth]) nla)
    have hps2 := hps.same (Same.new (o := .lst [.ref first, .ref second, .ref third, .ref fourth, .non, .ref sixth]) nla)
    have hpu2 := hpu.same (Same.new (o := .lst [.ref first, .ref second, .ref third, .ref fourth, .non, .ref sixth]) nla)
    have gD3 := Same.new (o := .lst [.ref first, .ref second, .ref third, .ref fourth, .non, .ref sixth]) nla _ _ gD2
    have gla : (upd Ic la (.lst [.ref first, .ref second, .ref third, .ref fourth, .non, .ref sixth])) la = some (.lst [.ref first, .ref second, .ref third, .ref fourth, .non, .ref sixth]) := upd_same
    have nlaH : H la = none := sI.free nla
    have hDla : D ≠ la := fun e => by
      rw [e] at gD2
      rw [nla] at gD2
      cases gD2
    clear hps hpu gD2 sI nla
    generalize upd Ic la (.lst [.ref first, .ref second, .ref third, .ref fourth, .non, .ref sixth]) = Id at sJ hps2 hpu2 gD3 gla ⊢
    refine ⟨la, [.ref first, .ref second, .ref third, .ref fourth, .non, .ref sixth], rfl, lst_of gla, for_it walk_enum (fun i σ H2 => But D Id H2 ∧ RfD K H2 D (((pdv d.u 0 PS).take i).filterMap id) ∧ ∃ (sc : Addr) (v k : Option V), σ = [some (.ref p), some (.ref o), some (.ref pa1), some (.ref pa2), some (.ref pa3), some (.ref pa4), some (.ref pa6), v, some (.ref pu), some (.ref pr), some (.ref ps), some (.ref pt), some (.ref second), some (.ref third), some (.ref fourth), some (.ref gone), some (.ref sixth), some (.ref D), some (.ref sc), k] ∧ PrT K H2 sc (d.u ^ (i + 1)) (16 * (i + 1))) ⟨But.refl _ _, ⟨[], gD3, rfl, fun i x e => by cases e⟩, pu, none, none, rfl, by rw [show d.u ^ (0 + 1) = d.u by rw [Rat.pow_succ, Rat.pow_zero, Rat.one_mul]]; exact hpu2⟩ (fun i σ H2 _ z => lst_of (z.1 _ _ gla (fun e => hDla e.symm))) ?_ ?_⟩
    · rintro i x σ H2 H2' hi ⟨b2, ⟨L, gL, rL⟩, sc, v, k, rfl, hsc⟩ ⟨T0, x0, y, rfl, nT, rfl, hx0, hy⟩
      have hi6 : i < 6 := hi
      refine ⟨T0, _, rfl, tup_of upd_same, rfl, _, _, rfl, _, _, rfl, rfl, ?_⟩
      have sT := Same.new (o := .tup [x0, y]) nT
      have b3 := b2.trans (But.of (m := D) sT)
      have gL3 := sT _ _ gL
      have rL3 := rL.same sT
      have hsc3 := hsc.same sT
      have hlen : L.length ≤ i := by
        have h1 := rL.1
        rw [List.length_map] at h1
        rw [h1]
        exact fm_len _ _
      clear b2 gL rL hsc
      generalize upd H2 T0 (.tup [x0, y]) = H3 at sT b3 gL3 rL3 hsc3 ⊢
      have hpu3 := hpu2.but b3 gD3
      have unz := pow_nz hu1' (i + 1)
      have sc96 : 16 * (i + 1) ≤ 96 := by omega
      rcases hps2 i y hy with ⟨a, qq, rfl, hpi, hqa⟩ | ⟨rfl, hpi⟩
      · have hqa3 := hqa.but b3 gD3
        have hpd : (pdv d.u 0 PS)[i]? = some (some (qq / d.u ^ (i + 1))) := by
          rw [pdv_at, hpi, Nat.zero_add]
          rfl
        first | refine sigN [some (.ref p), some (.ref o), some (.ref pa1), some (.ref pa2), some (.ref pa3), some (.ref pa4), some (.ref pa6), some (.ref a), some (.ref pu), some (.ref pr), some (.ref ps), some (.ref pt), some (.ref second), some (.ref third), some (.ref fourth), some (.ref gone), some (.ref sixth), some (.ref D), some (.ref sc), some x0] (by rfl) ?_ | refine sig [some (.ref p), some (.ref o), some (.ref pa1), some (.ref pa2), some (.ref pa3), some (.ref pa4), some (.ref pa6), some (.ref a), some (.ref pu), some (.ref pr), some (.ref ps), some (.ref pt), some (.ref second), some (.ref third), some (.ref fourth), some (.ref gone), some (.ref sixth), some (.ref D), some (.ref sc), some x0] (by rfl) ?_
        refine ⟨_, rfl, rfl, _, rfl, iteT ?_⟩
        refine ⟨.ref D, rfl, .inl ⟨rfl, _, lst_of gL3⟩, .ref a, rfl, .ref sc, rfl, a, sc, qq, d.u ^ (i + 1), 2000, 16 * (i + 1), rfl, hqa3, hsc3, hqa3.rb, hsc3.rb, by omega, unz, fun t nt => ?_⟩
        have s4 := Same.new (o := .tup (fq (qq / d.u ^ (i + 1)))) nt
        have gt : (upd H3 t (.tup (fq (qq / d.u ^ (i + 1))))) t = some (.tup (fq (qq / d.u ^ (i + 1)))) := upd_same
        have gL4 := s4 _ _ gL3
        have rL4 := (rL3.same s4).push (tup_of gt)
        have hsc4 := hsc3.same s4
        have hpu4 := hpu3.same s4
        have b4 := b3.trans (But.of (m := D) s4)
        generalize upd H3 t (.tup (fq (qq / d.u ^ (i + 1)))) = H4 at s4 gt gL4 rL4 hsc4 hpu4 b4 ⊢
        refine ⟨D, _, _, rfl, rfl, gL4, small1000 (by rw [List.length_map]; omega), ?_⟩
        have hsc5 := hsc4.put (o := .lst (L.map V.ref ++ [.ref t])) gL4
        have hpu5 := hpu4.put (o := .lst (L.map V.ref ++ [.ref t])) gL4
        have rL5 := rL4.put (o := .lst (L.map V.ref ++ [.ref t])) gL4
        have b5 := b4.trans (But.upd (m := D) (o := .lst (L.map V.ref ++ [.ref t])))
        have gL5 : (upd H4 D (.lst (L.map V.ref ++ [.ref t]))) D = some (.lst (L.map V.ref ++ [.ref t])) := upd_same
        generalize upd H4 D (.lst (L.map V.ref ++ [.ref t])) = H5 at hsc5 hpu5 rL5 b5 gL5 ⊢
        refine ⟨.ref sc, rfl, .ref pu, rfl, sc, pu, d.u ^ (i + 1), d.u, 16 * (i + 1), 16, rfl, hsc5, hpu5, hsc5.rb, hpu5.rb, by omega, trivial, fun t2 nt2 => ?_⟩
        have s6 := Same.new (o := .tup (fq (d.u ^ (i + 1) * d.u))) nt2
        have gt2 : PrT K (upd H5 t2 (.tup (fq (d.u ^ (i + 1) * d.u)))) t2 (d.u ^ (i + 1 + 1)) (16 * (i + 1 + 1)) := by
          rw [Rat.pow_succ d.u (i + 1)]
          exact .of (tup_of upd_same) ((RB.mul hsc5.rb hpu5.rb).up (by omega))
        refine ⟨b5.trans (But.of s6), ⟨L ++ [t], by rw [List.map_append]; exact s6 _ _ gL5, ?_⟩, t2, _, _, rfl, gt2⟩
        rw [List.map_append, fm_some hpd]
        exact rL5.same s6
      · have hpd : (pdv d.u 0 PS)[i]? = some none := by
          rw [pdv_at, hpi]
          rfl
        first | refine sigN [some (.ref p), some (.ref o), some (.ref pa1), some (.ref pa2), some (.ref pa3), some (.ref pa4), some (.ref pa6), some V.non, some (.ref pu), some (.ref pr), some (.ref ps), some (.ref pt), some (.ref second), some (.ref third), some (.ref fourth), some (.ref gone), some (.ref sixth), some (.ref D), some (.ref sc), some x0] (by rfl) ?_ | refine sig [some (.ref p), some (.ref o), some (.ref pa1), some (.ref pa2), some (.ref pa3), some (.ref pa4), some (.ref pa6), some V.non, some (.ref pu), some (.ref pr), some (.ref ps), some (.ref pt), some (.ref second), some (.ref third), some (.ref fourth), some (.ref gone), some (.ref sixth), some (.ref D), some (.ref sc), some x0] (by rfl) ?_
        refine ⟨_, rfl, rfl, _, rfl, iteF ?_⟩
        refine ⟨.ref sc, rfl, .ref pu, rfl, sc, pu, d.u ^ (i + 1), d.u, 16 * (i + 1), 16, rfl, hsc3, hpu3, hsc3.rb, hpu3.rb, by omega, trivial, fun t2 nt2 => ?_⟩
        have s6 := Same.new (o := .tup (fq (d.u ^ (i + 1) * d.u))) nt2
        have gt2 : PrT K (upd H3 t2 (.tup (fq (d.u ^ (i + 1) * d.u)))) t2 (d.u ^ (i + 1 + 1)) (16 * (i + 1 + 1)) := by
          rw [Rat.pow_succ d.u (i + 1)]
          exact .of (tup_of upd_same) ((RB.mul hsc3.rb hpu3.rb).up (by omega))
        refine ⟨b3.trans (But.of s6), ⟨L, s6 _ _ gL3, ?_⟩, t2, _, _, rfl, gt2⟩
        rw [fm_none hpd]
        exact rL3.same s6
    · rintro σ H2 ⟨b2, ⟨L, gL, rL⟩, sc, v, k, rfl, hsc⟩
      have e6 : (pdv d.u 0 PS).take ([V.ref first, V.ref second, V.ref third, V.ref fourth, V.non, V.ref sixth] : List V).length = pdv d.u 0 PS := by
        rw [List.take_of_length_le]
        rw [pdv_len, hPSl]
        exact Nat.le_refl _
      rw [e6] at rL
      refine ⟨.ref D, rfl, D, _, rfl, .inl ⟨lst_of gL, fun t nt => ?_⟩⟩
      have sZ := Same.new (o := .tup (L.map V.ref)) nt
      exact q _ t _ ((But.same sJ b2 nDH).trans sZ) upd_same (rL.same sZ)
end
end K13
set_option Elab.async false
set_option linter.all false
set_option maxRecDepth 100000
set_option maxHeartbeats 400000
namespace K13
open PySem PySem.Spec PyProof.Rows L2 Gd QM
local macro_rules | `(tactic| walk_at "bd") => `(tactic| (repeat (first | assumption | apply B.add | apply B.sub | apply B.mul | apply B.neg | exact B.lit (n := 8) (by decide))))
local macro_rules | `(tactic| walk_at "pw") => `(tactic| exact B.up (n := 64) (by assumption) (by decide))
local macro_rules | `(tactic| walk_at "bnd") => `(tactic| (apply B.mulW; walk_at "bd"; decide))
theorem cand_md {c4 c6 : Int} (h4 : B 59 c4) (h6 : B 104 c6) {k : Nat} (hk : k < 12) : (cand c4 c6 k).Md := by
  have : k = 0 ∨ k = 1 ∨ k = 2 ∨ k = 3 ∨ k = 4 ∨ k = 5 ∨ k = 6 ∨ k = 7 ∨ k = 8 ∨ k = 9 ∨ k = 10 ∨ k = 11 := by omega
  unfold B at h4 h6
  rcases this with rfl | rfl | rfl | rfl | rfl | rfl | rfl | rfl | rfl | rfl | rfl | rfl <;> refine ⟨?_, ?_, ?_, ?_, ?_⟩ <;> unfold cand B <;> simp <;> omega
/-- triples that are tried -/
def TrD (H : Hp) (D : Addr) (i : Nat) : Prop := ∃ L : List Addr, H D = some (.lst (L.map V.ref)) ∧ L.length = i ∧ ∀ (j : Nat) (p : Addr), L[j]? = some p → H p = some (.tup [.int ((j : Int) / 6), .int ((j : Int) % 3 - 1), .int ((j : Int) / 3 - (j : Int) / 6 * 2)])
/-- curves in a list -/
def CvL (K : PySem.W.Frag) (H : Hp) (D : Addr) (cs : List Cv) : Prop := ∃ L : List Addr, H D = some (.lst (L.map V.ref)) ∧ L.length = cs.length ∧ ∀ (j : Nat) (p : Addr), L[j]? = some p → ∃ c, cs[j]? = some c ∧ SqT K H p c.tup
theorem get_snoc {A : Type} {L : List A} {t p : A} {j : Nat} (h : (L ++ [t])[j]? = some p) : L[j]? = some p ∨ (j = L.length ∧ p = t) := by
  rcases Nat.lt_or_ge j L.length with z | z
  · rw [List.getElem?_append_left z] at h
    exact .inl h
  · rw [List.getElem?_append_right z] at h
    have e0 : j - L.length = 0 := by
      rcases Nat.eq_zero_or_pos (j - L.length) with y | y
      · exact y
      · rw [List.getElem?_eq_none (by simp; omega)] at h
        cases h
    rw [e0] at h
    exact .inr ⟨by omega, (Option.some.inj h).symm⟩
theorem get_lt {A : Type} {L : List A} {p : A} {j : Nat} (h : L[j]? = some p) : j < L.length := (List.getElem?_eq_some_iff.mp h).1
theorem eqv_c (a b c d : Int) : PyData.eqv (.tuple [.int a, .int b]) (.tuple [.int c, .int d]) = (decide (a = c) && decide (b = d)) := by
  show (decide (a = c) && (decide (b = d) && true)) = _
  simp
section
variable {P : Program} {w : World} {K : PySem.W.Frag} {mg : Str → Option Value} {base : Heap}
def sp_law_pair (K : PySem.W.Frag) : Sp := fun vs H Q _ => ∃ c4 c6 : Int, vs = [.int c4, .int c6] ∧ B 59 c4 ∧ B 104 c6 ∧ ∀ H' D, Same H H' → CvL K H' D (pairN c4 c6 12) → Q (.ref D) H'
abbrev s__law_pair : Stmt := topS 67
theorem sc__law_pair : FnScope ["c4", "c6", "found", "a", "b", "c", "k", "two", "four", "six", "five_v", "numbers"] ["c4", "c6"] (defScope s__law_pair) := ⟨rfl, rfl, rfl, by decide +kernel, rfl, by decide +kernel, by decide +kernel⟩
theorem k_law_pair (T : Tx K mg) (D : Df K mg "_law_pair" s__law_pair ["c4", "c6"]) (c_law_numbers : Kl P w K mg base 1 "_law_numbers" (sp_law_numbers K)) : Kl P w K mg base 2 "_law_pair" (sp_law_pair K) := by
  have nd := sc__law_pair.nd
  refine Kl.by_body D sc__law_pair (fun vs H Q E h => ?_) (fun f cdv A outer s H vs Q E hr h => ?_)
  · obtain ⟨_, _, rfl, _⟩ := h
    rfl
  · obtain ⟨c4, c6, rfl, h4, h6, q⟩ := h
    have hu1 := hu_of hr
    refine ⟨_, (pss_cons (ps_set (i := 2) nd rfl (by first | exact Or.inl rfl | exact Or.inr rfl) (pe_lst pa_nil))
      (pss_cons (ps_for PassesOwn.never rfl (pi_list (pe_lc (own := [("k", 6)]) (g := gName 6) rfl nd (pi_range1 (by rfl) T.range (pa_cons pe_int pa_nil)) (blkOk_by (N := ["c4", "c6", "found", "a", "b", "c", "k", "two", "four", "six", "five_v", "numbers"]) (sc := defScope s__law_pair) (by decide +kernel)) (fun _ _ _ _ _ => (pg_name (i := 6) nd rfl (by first | exact Or.inl rfl | exact Or.inr rfl))) (fun _ _ _ _ _ => pts_nil) (fun _ _ _ _ _ => (pe_tup (pa_cons (pe_op op_fdiv (pv 6) pe_int) (pa_cons (pe_op op_sub (pe_op op_mod (pe_callTy call_intI (by rfl) T.int (by decide +kernel) (pa_cons (pv 6) pa_nil)) pe_int) pe_int) (pa_cons (pe_op op_sub (pe_op op_fdiv (pv 6) pe_int) (pe_op op_mul (pe_op op_fdiv (pv 6) pe_int) pe_int)) pa_nil))))))) (pg_tup rfl (pgs_cons (pg_name (i := 3) nd rfl (by first | exact Or.inl rfl | exact Or.inr rfl)) (pgs_cons (pg_name (i := 4) nd rfl (by first | exact Or.inl rfl | exact Or.inr rfl)) (pgs_cons (pg_name (i := 5) nd rfl (by first | exact Or.inl rfl | exact Or.inr rfl)) pgs_nil)))) (pss_cons (ps_set (i := 7) nd rfl (by first | exact Or.inl rfl | exact Or.inr rfl) (pe_op op_add (pv 3) (pe_op op_mul pe_int (pv 4))))
      (pss_cons (ps_set (i := 8) nd rfl (by first | exact Or.inl rfl | exact Or.inr rfl) (pe_op op_fdiv (pe_op op_sub (pe_op op_mulW (pv 7) (pv 7)) (pv 0)) pe_int))
      (pss_cons (ps_set (i := 9) nd rfl (by first | exact Or.inl rfl | exact Or.inr rfl) (pe_op op_fdiv (pe_op op_sub (pe_op op_sub (pe_op op_mulW (pe_op op_mul pe_int (pv 7)) (pv 8)) (pe_op op_pow (pv 7) pe_int)) (pv 1)) pe_int))
      (pss_cons (ps_set (i := 10) nd rfl (by first | exact Or.inl rfl | exact Or.inr rfl) (pe_tup (pa_cons (pv 3) (pa_cons (pv 4) (pa_cons (pv 5) (pa_cons (pe_op op_fdiv (pe_op op_sub (pv 8) (pe_op op_mulW (pv 3) (pv 5))) pe_int) (pa_cons (pe_op op_fdiv (pe_op op_sub (pv 9) (pv 5)) pe_int) pa_nil)))))))
      (pss_cons (ps_set (i := 11) nd rfl (by first | exact Or.inl rfl | exact Or.inr rfl) (pe_k c_law_numbers  hr (by decide) (by rfl) (pa_cons (pv 10) pa_nil)))
      (pss_one (ps_if (PW.pt (pw_and (pt_cmpR (op_eqD hr.units) (pe_slice sl_tup (pv 11) (po_some pe_int) (po_some pe_int)) (pe_tup (pa_cons (pv 0) (pa_cons (pv 1) pa_nil))) (nomark _)) (pw_and1 (pt_cmpR op_ne (pe_ix ix_tup (pv 11) pe_int (fun _ _ => rfl)) pe_int (nomark _))))) (pss_one (ps_expr (pe_bm PySem.F.plainAttrs_list PySem.F.slot_list_append PySem.F.type_list_append mt_append (pv 2) (pa_cons (pv 10) pa_nil)))) pss_nil))))))))
      (pss_one (ps_ret (pv 2))))), ?_⟩
    refine ⟨(by show 0 ≤ sizeLine; decide), fun F nF => ?_⟩
    have s1 := Same.new (H := H) (p := F) (o := .lst []) nF
    have gF : upd H F (.lst []) F = some (.lst []) := upd_same
    generalize upd H F (.lst []) = H1 at s1 gF ⊢
    first | refine sigN [some (.int (c4)), some (.int (c6)), some (.ref F), none, none, none, none, none, none, none, none, none] (by rfl) ?_ | refine sig [some (.int (c4)), some (.int (c6)), some (.ref F), none, none, none, none, none, none, none, none, none] (by rfl) ?_
    refine ⟨12, rfl, by decide, by decide, fun D hD => ?_⟩
    have hFD : F ≠ D := ne_of_none gF hD
    refine lc_range (lo := 0) (n := 12) (fun i H3 => Same H1 H3 ∧ TrD H3 D i) ⟨Same.new hD, [], upd_same, rfl, fun j p e => by cases e⟩ (fun i H3 hi z => ?_) (fun H3 z => ?_)
    · obtain ⟨s3, L, hL, el, hp⟩ := z
      refine ⟨rfl, _, rfl, _, _, rfl, rfl, ⟨by decide, by decide⟩, _, rfl, _, rfl, _, _, rfl, rfl, (by show (0 : Int) < 3; decide), _, _, rfl, rfl, _, rfl, _, _, rfl, rfl, ⟨by decide, by decide⟩, _, rfl, _, _, rfl, rfl, ⟨by decide, by decide⟩, _, _, rfl, rfl, (Or.inr ⟨by decide, by decide⟩), _, _, rfl, rfl, (by show 3 ≤ sizeLine; decide), fun t nt => ?_⟩
      rw [Int.zero_add]
      have hDt : D ≠ t := ne_of_none hL nt
      refine ⟨L.map V.ref, by rw [upd_ne hDt]; exact hL, small1000 (by rw [List.length_map]; omega), Same.put (Same.put s3 (s3.free nt)) hD, L ++ [t], by rw [upd_same, List.map_append]; rfl, by rw [List.length_append, el]; rfl, fun j p e => ?_⟩
      rcases get_snoc e with e | ⟨rfl, rfl⟩
      · have g := hp j p e
        rw [upd_ne (ne_of g hL (by intro z; cases z)), upd_ne (ne_of_none g nt)]
        exact g
      · rw [upd_ne hDt.symm, upd_same, el]
    obtain ⟨s3, L, hL, el, hp⟩ := z
    have gF3 := s3 _ _ gF
    have sA := s1.trans s3
    refine ⟨D, rfl, ⟨_, lst_of hL⟩, for_list (K := K) (a := D) (xs := L.map V.ref) (fun i σ H4 => But F H3 H4 ∧ CvL K H4 F (pairN c4 c6 i) ∧ ∃ va vb vc v7 v8 v9 v10 v11 : Option V, σ = [some (.int c4), some (.int c6), some (.ref F), va, vb, vc, none, v7, v8, v9, v10, v11]) ⟨But.refl _ _, ⟨[], gF3, rfl, fun j p e => by cases e⟩, none, none, none, none, none, none, none, none, rfl⟩ (fun i σ H4 _ z => lst_of (z.1 _ _ hL (fun e => hFD e.symm))) ?_ ?_⟩
    · rintro i x σ H4 hi ⟨b4, ⟨C, gC, eC, hC⟩, va, vb, vc, v7, v8, v9, v10, v11, rfl⟩
      obtain ⟨p, rfl, hpi⟩ : ∃ p, x = .ref p ∧ L[i]? = some p := by
        rw [List.getElem?_map] at hi
        cases e : L[i]? with
        | none =>
          rw [e] at hi
          cases hi
        | some y =>
          rw [e] at hi
          exact ⟨y, (Option.some.inj hi).symm, rfl⟩
      have hi12 : i < 12 := by
        have := get_lt hpi
        omega
      have gp3 := hp i p hpi
      have gp := b4 _ _ gp3 (ne_of gp3 gF3 (by intro z; cases z))
      have hmd := cand_md h4 h6 hi12
      have hlen : (pairN c4 c6 i).length ≤ i := pairN_len _ _ _
      have hcd : cand c4 c6 i = cand c4 c6 i := rfl
      conv at hcd => rhs; unfold cand
      have hA : B 2 ((i : Int) / 6) := by
        unfold B
        omega
      have hBb : B 2 ((i : Int) % 3 - 1) := by
        unfold B
        omega
      have hCc : B 2 ((i : Int) / 3 - (i : Int) / 6 * 2) := by
        unfold B
        omega
      have ht : B 8 ((i : Int) / 6 + 4 * ((i : Int) % 3 - 1)) := by
        unfold B
        omega
      generalize (i : Int) / 3 - (i : Int) / 6 * 2 = c at gp hcd hCc
      generalize (i : Int) / 6 = a at gp hcd hA ht
      generalize (i : Int) % 3 - 1 = b at gp hcd hBb ht
      clear gp3 hi hp
      refine ⟨p, _, rfl, tup_of gp, rfl, _, _, rfl, _, _, rfl, _, _, rfl, rfl, ?_⟩
      first | refine sigN [some (.int (c4)), some (.int (c6)), some (.ref F), some (.int (a)), some (.int (b)), some (.int (c)), none, v7, v8, v9, v10, v11] (by rfl) ?_ | refine sig [some (.int (c4)), some (.int (c6)), some (.ref F), some (.int (a)), some (.int (b)), some (.int (c)), none, v7, v8, v9, v10, v11] (by rfl) ?_
      refine ⟨_, rfl, _, rfl, _, _, rfl, rfl, (Or.inl ⟨by decide, by decide⟩), _, _, rfl, rfl, ?_⟩
      first | refine sigN [some (.int (c4)), some (.int (c6)), some (.ref F), some (.int (a)), some (.int (b)), some (.int (c)), none, some (.int (a + 4 * b)), v8, v9, v10, v11] (by rfl) ?_ | refine sig [some (.int (c4)), some (.int (c6)), some (.ref F), some (.int (a)), some (.int (b)), some (.int (c)), none, some (.int (a + 4 * b)), v8, v9, v10, v11] (by rfl) ?_
      generalize a + 4 * b = two at ht hcd ⊢
      refine ⟨_, rfl, _, rfl, _, _, rfl, rfl, (by walk_at "bnd"), _, rfl, _, _, rfl, rfl, _, _, rfl, rfl, ⟨by decide, by decide⟩, ?_⟩
      have hf : B 60 ((two * two - c4) / 24) := by
        have := ht.mul ht
        unfold B at *
        omega
      first | refine sigN [some (.int (c4)), some (.int (c6)), some (.ref F), some (.int (a)), some (.int (b)), some (.int (c)), none, some (.int (two)), some (.int ((two * two - c4) / 24)), v9, v10, v11] (by rfl) ?_ | refine sig [some (.int (c4)), some (.int (c6)), some (.ref F), some (.int (a)), some (.int (b)), some (.int (c)), none, some (.int (two)), some (.int ((two * two - c4) / 24)), v9, v10, v11] (by rfl) ?_
      generalize (two * two - c4) / 24 = four at hf hcd ⊢
      refine ⟨_, rfl, _, _, rfl, rfl, (Or.inl ⟨by decide, by decide⟩), _, rfl, _, _, rfl, rfl, (by walk_at "bnd"), _, rfl, _, _, rfl, rfl, ⟨by decide, by decide, by walk_at "pw"⟩, _, _, rfl, rfl, _, rfl, _, _, rfl, rfl, _, _, rfl, rfl, ⟨by decide, by decide⟩, ?_⟩
      first | refine sigN [some (.int (c4)), some (.int (c6)), some (.ref F), some (.int (a)), some (.int (b)), some (.int (c)), none, some (.int (two)), some (.int (four)), some (.int ((36 * two * four - two ^ 3 - c6) / 216)), v10, v11] (by rfl) ?_ | refine sig [some (.int (c4)), some (.int (c6)), some (.ref F), some (.int (a)), some (.int (b)), some (.int (c)), none, some (.int (two)), some (.int (four)), some (.int ((36 * two * four - two ^ 3 - c6) / 216)), v10, v11] (by rfl) ?_
      generalize (36 * two * four - two ^ 3 - c6) / 216 = six at hcd ⊢
      refine ⟨_, rfl, _, rfl, _, rfl, _, rfl, _, rfl, _, rfl, _, _, rfl, rfl, (by walk_at "bnd"), _, _, rfl, rfl, _, _, rfl, rfl, ⟨by decide, by decide⟩, _, rfl, _, rfl, _, _, rfl, rfl, _, _, rfl, rfl, ⟨by decide, by decide⟩, (by show 5 ≤ sizeLine; decide), fun t nt => ?_⟩
      have s5 := Same.new (H := H4) (p := t) (o := .tup [.int a, .int b, .int c, .int ((four - a * c) / 2), .int ((six - c) / 4)]) nt
      have gt : upd H4 t (.tup [.int a, .int b, .int c, .int ((four - a * c) / 2), .int ((six - c) / 4)]) t = some (.tup [.int a, .int b, .int c, .int ((four - a * c) / 2), .int ((six - c) / 4)]) := upd_same
      generalize upd H4 t (.tup [.int a, .int b, .int c, .int ((four - a * c) / 2), .int ((six - c) / 4)]) = H5 at s5 gt ⊢
      have gt' : H5 t = some (.tup (cand c4 c6 i).tup) := by
        rw [hcd]
        exact gt
      have b5 := b4.trans (But.of (m := F) s5)
      have gC5 := s5 _ _ gC
      have hC5 : ∀ (j : Nat) (p : Addr), C[j]? = some p → ∃ c, (pairN c4 c6 i)[j]? = some c ∧ SqT K H5 p c.tup := fun j p e => (hC j p e).imp fun c z => ⟨z.1, Same.tup s5 z.2⟩
      clear gC hC s5 gt hcd
      generalize hE : cand c4 c6 i = e at gt' hmd
      first | refine sigN [some (.int (c4)), some (.int (c6)), some (.ref F), some (.int (a)), some (.int (b)), some (.int (c)), none, some (.int (two)), some (.int (four)), some (.int (six)), some (.ref t), v11] (by rfl) ?_ | refine sig [some (.int (c4)), some (.int (c6)), some (.ref F), some (.int (a)), some (.int (b)), some (.int (c)), none, some (.int (two)), some (.int (four)), some (.int (six)), some (.ref t), v11] (by rfl) ?_
      refine ⟨.ref t, rfl, t, e, rfl, tup_of gt', hmd, fun u nu => ?_⟩
      have s6 := Same.new (H := H5) (p := u) (o := .tup e.nums) nu
      have gu : upd H5 u (.tup e.nums) u = some (.tup e.nums) := upd_same
      generalize upd H5 u (.tup e.nums) = H6 at s6 gu ⊢
      first | refine sigN [some (.int (c4)), some (.int (c6)), some (.ref F), some (.int (a)), some (.int (b)), some (.int (c)), none, some (.int (two)), some (.int (four)), some (.int (six)), some (.ref t), some (.ref u)] (by rfl) ?_ | refine sig [some (.int (c4)), some (.int (c6)), some (.ref F), some (.int (a)), some (.int (b)), some (.int (c)), none, some (.int (two)), some (.int (four)), some (.int (six)), some (.ref t), some (.ref u)] (by rfl) ?_
      refine ⟨.ref u, rfl, _, rfl, _, rfl, u, _, rfl, tup_of gu, (by show ¬ (HT.sIx 7 0 (some 4) = 0 ∧ HT.sIx 7 7 (some 6) = 7); decide), fun t2 n2 => ?_⟩
      have e2 : cutV e.nums (some 4) (some 6) = [.int e.c4, .int e.c6] := rfl
      rw [e2]
      have s7 := Same.new (H := H6) (p := t2) (o := .tup [.int e.c4, .int e.c6]) n2
      have g7 : upd H6 t2 (.tup [.int e.c4, .int e.c6]) t2 = some (.tup [.int e.c4, .int e.c6]) := upd_same
      generalize upd H6 t2 (.tup [.int e.c4, .int e.c6]) = H7 at s7 g7 ⊢
      refine ⟨_, rfl, _, rfl, (by show 2 ≤ sizeLine; decide), fun t3 n3 => ?_⟩
      have s8 := Same.new (H := H7) (p := t3) (o := .tup [.int c4, .int c6]) n3
      have g8 : upd H7 t3 (.tup [.int c4, .int c6]) t3 = some (.tup [.int c4, .int c6]) := upd_same
      generalize upd H7 t3 (.tup [.int c4, .int c6]) = H8 at s8 g8 ⊢
      refine ⟨.tuple [.int e.c4, .int e.c6], .tuple [.int c4, .int c6], .tup (tup_of (s8 _ _ g7)) (.cons (.int _) (.cons (.int _) .nil)), .tup (tup_of g8) (.cons (.int _) (.cons (.int _) .nil)), rfl, rfl, ?_⟩
      rw [eqv_c]
      have gu8 := s8 _ _ (s7 _ _ gu)
      have gC8 := s8 _ _ (s7 _ _ (s6 _ _ gC5))
      have gt8 := s8 _ _ (s7 _ _ (s6 _ _ gt'))
      have b8 := b5.trans (But.of (m := F) (s6.trans (s7.trans s8)))
      have hC8 : ∀ (j : Nat) (p : Addr), C[j]? = some p → ∃ c, (pairN c4 c6 i)[j]? = some c ∧ SqT K H8 p c.tup := fun j p e => (hC5 j p e).imp fun c z => ⟨z.1, Same.tup (s6.trans (s7.trans s8)) z.2⟩
      clear gC5 gu g7 g8 hC5 b5 s6 s7 s8 gt' b4 gp
      have no : ¬ Fits c4 c6 e → But F H3 H8 ∧ CvL K H8 F (pairN c4 c6 (i + 1)) ∧ ∃ va vb vc v7 v8 v9 v10 v11 : Option V, [some (V.int c4), some (.int c6), some (.ref F), some (.int a), some (.int b), some (.int c), none, some (.int two), some (.int four), some (.int six), some (.ref t), some (.ref u)] = [some (.int c4), some (.int c6), some (.ref F), va, vb, vc, none, v7, v8, v9, v10, v11] := fun hn => by
        refine ⟨b8, ⟨C, gC8, ?_, ?_⟩, _, _, _, _, _, _, _, _, rfl⟩
        · rw [pairN_no (by rw [hE]; exact hn)]
          exact eC
        · rw [pairN_no (by rw [hE]; exact hn)]
          exact hC8
      refine ⟨_, rfl, ?_⟩
      by_cases hz : e.c4 = c4 ∧ e.c6 = c6
      · refine iteY (by rw [hz.1, hz.2]; simp) ?_
        refine ⟨.ref u, rfl, u, _, 6, .int e.disc, rfl, rfl, tup_of gu8, rfl, ?_⟩
        refine ⟨rfl, _, rfl, ?_⟩
        rw [dec_int]
        by_cases hd : e.disc = 0
        · refine iteN (by simp [hd]) ?_
          exact no (fun z => z.2.2 hd)
        · refine iteY (by simp [hd]) ?_
          refine ⟨.ref F, rfl, .inl ⟨rfl, _, lst_of gC8⟩, .ref t, rfl, F, _, _, rfl, rfl, gC8, small1000 (by rw [List.length_map]; omega), ?_⟩
          have hy : Fits c4 c6 (cand c4 c6 i) := by
            rw [hE]
            exact ⟨hz.1, hz.2, hd⟩
          refine ⟨b8.trans But.upd, ⟨C ++ [t], by rw [upd_same, List.map_append]; rfl, ?_, fun j p e' => ?_⟩, _, _, _, _, _, _, _, _, rfl⟩
          · rw [pairN_yes hy, List.length_append, List.length_append, eC]
            rfl
          · rw [pairN_yes hy, hE]
            rcases get_snoc e' with e' | ⟨rfl, rfl⟩
            · obtain ⟨c', h1, h2⟩ := hC8 j p e'
              exact ⟨c', by rw [List.getElem?_append_left (get_lt h1)]; exact h1, tup_put gC8 h2⟩
            · refine ⟨e, by rw [List.getElem?_append_right (by omega), eC, Nat.sub_self]; rfl, ?_⟩
              exact tup_put gC8 (tup_of gt8)
      · refine iteN (by
          intro y
          rw [Bool.and_eq_true, decide_eq_true_iff, decide_eq_true_iff] at y
          exact hz y) ?_
        exact no (fun z => hz ⟨z.1, z.2.1⟩)
    · rintro σ H4 ⟨b4, hcv, va, vb, vc, v7, v8, v9, v10, v11, rfl⟩
      rw [List.length_map, el] at hcv
      refine ⟨.ref F, rfl, ?_⟩
      exact q _ F (But.same sA b4 nF) hcv
end
end K13
set_option linter.all false
set_option maxRecDepth 100000
set_option maxHeartbeats 2000000
/-! which pairs are those of a curve, at 2 and at 3 apart: plain Lean -/
namespace K13
open PySem PySem.Spec PyProof.Rows L2 Gd QM
/-- the pair is that of a curve -/
def IsP (c4 c6 : Int) : Prop := ∃ c, Rc c ∧ Fits c4 c6 c
def A2 (c4 c6 : Int) : Prop := (c4 % 16 = 0 ∧ (c6 % 32 = 0 ∨ c6 % 32 = 8)) ∨ ((1 - c4) % 16 = 0 ∧ (1 - 3 * c4 - 2 * c6) % 64 = 0) ∨ ((1 - c4) % 16 = 8 ∧ (1 - 3 * c4 - 2 * c6) % 64 = 48)
def A3 (c4 c6 : Int) : Prop := (c4 % 3 = 0 ∧ c6 % 27 = 0) ∨ (c4 % 3 = 1 ∧ ((1 - 3 * c4 - 2 * c6) % 27 = 0 ∨ (3 * c4 - 1 - 2 * c6) % 27 = 0))
theorem isp_to {c4 c6 : Int} (h : IsP c4 c6) : A2 c4 c6 ∧ A3 c4 c6 ∧ c4 * c4 * c4 ≠ c6 * c6 := by
  obtain ⟨c, hr, h4, h6, hd⟩ := h
  have k1 := b2_of hr
  have e4 := c4_of c
  have e6 := c6_of c
  have f4 : c.b4 = 2 * c.a4 + c.a1 * c.a3 := rfl
  have f6 : c.b6 = c.a3 * c.a3 + 4 * c.a6 := rfl
  have h3 := hr.h3
  have hz : ¬ c.c4 * c.c4 * c.c4 = c.c6 * c.c6 := fun e => hd (disc0 c |>.mpr e)
  rw [h4, h6] at hz
  refine ⟨?_, ?_, hz⟩
  · rw [h4] at e4
    rw [h6] at e6
    clear hz hd h4 h6 hr
    unfold A2
    generalize c.b2 = u2 at *
    generalize c.b4 = u4 at *
    generalize c.b6 = u6 at *
    rcases k1 with ⟨k1, _, rfl⟩ | ⟨k1, _, rfl⟩ | ⟨k1, _, rfl⟩ | ⟨k1, _, rfl⟩ | ⟨k1, _, rfl⟩ | ⟨k1, _, rfl⟩ <;> rw [k1] at f4 <;> rcases h3 with h3 | h3 <;> rw [h3] at f4 f6
    all_goals first
      | (refine .inl ⟨by omega, ?_⟩; first | exact .inl (by omega) | exact .inr (by omega))
      | (rcases Int.emod_two_eq (u4 - u6) with z | z; all_goals first | exact .inr (.inl ⟨by omega, by omega⟩) | exact .inr (.inr ⟨by omega, by omega⟩) | (rcases Int.emod_two_eq u4 with y | y; all_goals first | exact .inr (.inl ⟨by omega, by omega⟩) | exact .inr (.inr ⟨by omega, by omega⟩)))
  · rw [h4] at e4
    rw [h6] at e6
    clear hz hd h4 h6 hr f4 f6 h3
    unfold A3
    generalize c.b2 = u2 at *
    generalize c.b4 = u4 at *
    generalize c.b6 = u6 at *
    rcases k1 with ⟨_, _, rfl⟩ | ⟨_, _, rfl⟩ | ⟨_, _, rfl⟩ | ⟨_, _, rfl⟩ | ⟨_, _, rfl⟩ | ⟨_, _, rfl⟩
    all_goals first
      | exact .inl ⟨by omega, by omega⟩
      | exact .inr ⟨by omega, .inl (by omega)⟩
      | exact .inr ⟨by omega, .inr (by omega)⟩
theorem isp_mk {a1 a2 b b4 b6 c4 c6 : Int} (h1 : a1 = 0 ∨ a1 = 1) (h2 : a2 = -1 ∨ a2 = 0 ∨ a2 = 1) (hb : b = a1 * a1 + 4 * a2) (e4 : c4 = b * b - 24 * b4) (e6 : c6 = 36 * b * b4 - b * b * b - 216 * b6) (h6 : b6 % 4 = 0 ∨ b6 % 4 = 1) (h4 : (b4 - a1 * b6) % 2 = 0)
    (hz : c4 * c4 * c4 ≠ c6 * c6) : IsP c4 c6 := by
  have f2 : Cv.b2 ⟨a1, a2, b6 % 4, (b4 - a1 * (b6 % 4)) / 2, b6 / 4⟩ = b := by
    rw [hb]
    rfl
  have f4 : Cv.b4 ⟨a1, a2, b6 % 4, (b4 - a1 * (b6 % 4)) / 2, b6 / 4⟩ = b4 := by
    show 2 * ((b4 - a1 * (b6 % 4)) / 2) + a1 * (b6 % 4) = b4
    rcases h1 with rfl | rfl <;> rcases h6 with h6 | h6 <;> rw [h6] <;> omega
  have f6 : Cv.b6 ⟨a1, a2, b6 % 4, (b4 - a1 * (b6 % 4)) / 2, b6 / 4⟩ = b6 := by
    show b6 % 4 * (b6 % 4) + 4 * (b6 / 4) = b6
    rcases h6 with h6 | h6 <;> rw [h6] <;> omega
  have g4 : Cv.c4 ⟨a1, a2, b6 % 4, (b4 - a1 * (b6 % 4)) / 2, b6 / 4⟩ = c4 := by rw [c4_of, f2, f4, e4]
  have g6 : Cv.c6 ⟨a1, a2, b6 % 4, (b4 - a1 * (b6 % 4)) / 2, b6 / 4⟩ = c6 := by rw [c6_of, f2, f4, f6, e6]
  exact ⟨_, ⟨h1, h2, h6⟩, g4, g6, fun z => hz (by rw [← g4, ← g6]; exact (disc0 _).mp z)⟩
theorem isp_of {c4 c6 : Int} (h2 : A2 c4 c6) (h3 : A3 c4 c6) (hz : c4 * c4 * c4 ≠ c6 * c6) : IsP c4 c6 := by
  unfold A2 at h2
  unfold A3 at h3
  rcases h2 with ⟨h2, h2'⟩ | h2 <;> rcases h3 with ⟨h3, h3'⟩ | ⟨h3, h3' | h3'⟩
  · exact isp_mk (a1 := 0) (a2 := 0) (b := 0) (b4 := -(c4 / 24)) (b6 := -(c6 / 216)) (.inl rfl) (.inr (.inl rfl)) (by decide) (by omega) (by omega) (by omega) (by omega) hz
  · exact isp_mk (a1 := 0) (a2 := 1) (b := 4) (b4 := (16 - c4) / 24) (b6 := (64 - 12 * c4 - 2 * c6) / 432) (.inl rfl) (.inr (.inr rfl)) (by decide) (by omega) (by omega) (by omega) (by omega) hz
  · exact isp_mk (a1 := 0) (a2 := -1) (b := -4) (b4 := (16 - c4) / 24) (b6 := (12 * c4 - 64 - 2 * c6) / 432) (.inl rfl) (.inl rfl) (by decide) (by omega) (by omega) (by omega) (by omega) hz
  · rcases h2 with ⟨h2, h2'⟩ | ⟨h2, h2'⟩
    · exact isp_mk (a1 := 1) (a2 := -1) (b := -3) (b4 := (9 - c4) / 24) (b6 := (9 * c4 - 27 - 2 * c6) / 432) (.inr rfl) (.inl rfl) (by decide) (by omega) (by omega) (by omega) (by omega) hz
    · exact isp_mk (a1 := 1) (a2 := -1) (b := -3) (b4 := (9 - c4) / 24) (b6 := (9 * c4 - 27 - 2 * c6) / 432) (.inr rfl) (.inl rfl) (by decide) (by omega) (by omega) (by omega) (by omega) hz
  · rcases h2 with ⟨h2, h2'⟩ | ⟨h2, h2'⟩
    · exact isp_mk (a1 := 1) (a2 := 0) (b := 1) (b4 := (1 - c4) / 24) (b6 := (1 - 3 * c4 - 2 * c6) / 432) (.inr rfl) (.inr (.inl rfl)) (by decide) (by omega) (by omega) (by omega) (by omega) hz
    · exact isp_mk (a1 := 1) (a2 := 0) (b := 1) (b4 := (1 - c4) / 24) (b6 := (1 - 3 * c4 - 2 * c6) / 432) (.inr rfl) (.inr (.inl rfl)) (by decide) (by omega) (by omega) (by omega) (by omega) hz
  · rcases h2 with ⟨h2, h2'⟩ | ⟨h2, h2'⟩
    · exact isp_mk (a1 := 1) (a2 := 1) (b := 5) (b4 := (25 - c4) / 24) (b6 := (125 - 15 * c4 - 2 * c6) / 432) (.inr rfl) (.inr (.inr rfl)) (by decide) (by omega) (by omega) (by omega) (by omega) hz
    · exact isp_mk (a1 := 1) (a2 := 1) (b := 5) (b4 := (25 - c4) / 24) (b6 := (125 - 15 * c4 - 2 * c6) / 432) (.inr rfl) (.inr (.inr rfl)) (by decide) (by omega) (by omega) (by omega) (by omega) hz
/-- made greater by an odd number: at 2 nothing changes -/
theorem a2_odd {c4 c6 a : Int} (h : a % 2 = 1) : A2 (a ^ 4 * c4) (a ^ 6 * c6) ↔ A2 c4 c6 := by
  obtain ⟨j, hj⟩ : ∃ j, a * a = 1 + 8 * j := by
    obtain ⟨k, rfl⟩ : ∃ k, a = 2 * k + 1 := ⟨a / 2, by omega⟩
    rcases Int.emod_two_eq k with z | z
    · exact ⟨k / 2 * (k + 1), by have : k = 2 * (k / 2) := by omega
                                 generalize k / 2 = y at *
                                 subst this
                                 grind⟩
    · exact ⟨k * ((k + 1) / 2), by have : k + 1 = 2 * ((k + 1) / 2) := by omega
                                   generalize (k + 1) / 2 = y at *
                                   have : k = 2 * y - 1 := by omega
                                   subst this
                                   grind⟩
  obtain ⟨r, q, hr, hq⟩ : ∃ r q, (r = 0 ∨ r = 1 ∨ r = 2 ∨ r = 3) ∧ j = r + 4 * q := ⟨j % 4, j / 4, by omega, by omega⟩
  have e4 : a ^ 4 * c4 = c4 + 16 * r * c4 + 64 * ((q + j * j) * c4) := by
    rw [show a ^ 4 = a * a * (a * a) by grind, hj]
    subst hq
    grind
  have e6 : a ^ 6 * c6 = c6 + 24 * r * c6 + 32 * ((3 * q + 6 * j * j + 16 * j * j * j) * c6) := by
    rw [show a ^ 6 = a * a * (a * a) * (a * a) by grind, hj]
    subst hq
    grind
  rw [e4, e6]
  generalize (q + j * j) * c4 = x
  generalize (3 * q + 6 * j * j + 16 * j * j * j) * c6 = y
  unfold A2
  constructor
  · rintro (⟨h1, h2 | h2⟩ | ⟨h1, h2⟩ | ⟨h1, h2⟩)
    · rcases hr with rfl | rfl | rfl | rfl <;> exact .inl ⟨by omega, .inl (by omega)⟩
    · rcases hr with rfl | rfl | rfl | rfl <;> exact .inl ⟨by omega, .inr (by omega)⟩
    · rcases hr with rfl | rfl | rfl | rfl <;> exact .inr (.inl ⟨by omega, by omega⟩)
    · rcases hr with rfl | rfl | rfl | rfl <;> exact .inr (.inr ⟨by omega, by omega⟩)
  · rintro (⟨h1, h2 | h2⟩ | ⟨h1, h2⟩ | ⟨h1, h2⟩)
    · rcases hr with rfl | rfl | rfl | rfl <;> exact .inl ⟨by omega, .inl (by omega)⟩
    · rcases hr with rfl | rfl | rfl | rfl <;> exact .inl ⟨by omega, .inr (by omega)⟩
    · rcases hr with rfl | rfl | rfl | rfl <;> exact .inr (.inl ⟨by omega, by omega⟩)
    · rcases hr with rfl | rfl | rfl | rfl <;> exact .inr (.inr ⟨by omega, by omega⟩)
/-- made greater by a number without the factor 3: at 3 nothing changes -/
theorem a3_no {c4 c6 a : Int} (h : a % 3 ≠ 0) : A3 (a ^ 4 * c4) (a ^ 6 * c6) ↔ A3 c4 c6 := by
  obtain ⟨j, hj⟩ : ∃ j, a * a = 1 + 3 * j := by
    obtain ⟨k, h2⟩ : ∃ k, a = 3 * k + 1 ∨ a = 3 * k - 1 := ⟨(a + 1) / 3, by omega⟩
    rcases h2 with rfl | rfl
    · exact ⟨3 * k * k + 2 * k, by grind⟩
    · exact ⟨3 * k * k - 2 * k, by grind⟩
  obtain ⟨r, q, hr, hq⟩ : ∃ r q, (r = 0 ∨ r = 1 ∨ r = 2) ∧ j = r + 3 * q := ⟨j % 3, j / 3, by omega, by omega⟩
  have e4 : a ^ 4 * c4 = c4 + 6 * r * c4 + 9 * ((2 * q + j * j) * c4) := by
    rw [show a ^ 4 = a * a * (a * a) by grind, hj]
    subst hq
    grind
  have e6 : a ^ 6 * c6 = c6 + 9 * r * c6 + 27 * ((q + j * j + j * j * j) * c6) := by
    rw [show a ^ 6 = a * a * (a * a) * (a * a) by grind, hj]
    subst hq
    grind
  rw [e4, e6]
  generalize (2 * q + j * j) * c4 = x
  generalize (q + j * j + j * j * j) * c6 = y
  unfold A3
  rcases hr with rfl | rfl | rfl <;> omega
end K13
set_option linter.all false
set_option maxRecDepth 100000
set_option maxHeartbeats 2000000
/-! the scales that a pair lets: the divisors of one number. Plain Lean -/
namespace K13
open PySem PySem.Spec PyProof.Rows L2 Gd QM
theorem isp_nz {x y t : Int} (ht : t ≠ 0) : (t ^ 4 * x) * (t ^ 4 * x) * (t ^ 4 * x) ≠ (t ^ 6 * y) * (t ^ 6 * y) ↔ x * x * x ≠ y * y := by
  have e : (t ^ 4 * x) * (t ^ 4 * x) * (t ^ 4 * x) - (t ^ 6 * y) * (t ^ 6 * y) = t ^ 12 * (x * x * x - y * y) := by grind
  have h12 : t ^ 12 ≠ 0 := Int.pow_ne_zero ht
  constructor
  · intro h z
    refine h ?_
    have : x * x * x - y * y = 0 := by omega
    rw [this, Int.mul_zero] at e
    omega
  · intro h z
    refine h ?_
    have : (t ^ 4 * x) * (t ^ 4 * x) * (t ^ 4 * x) - (t ^ 6 * y) * (t ^ 6 * y) = 0 := by omega
    rw [this] at e
    rcases Int.mul_eq_zero.mp e.symm with y1 | y1
    · exact absurd y1 h12
    · omega
theorem isp_iff {c4 c6 : Int} : IsP c4 c6 ↔ A2 c4 c6 ∧ A3 c4 c6 ∧ c4 * c4 * c4 ≠ c6 * c6 := ⟨isp_to, fun h => isp_of h.1 h.2.1 h.2.2⟩
theorem isp_up {x y t : Int} (ht : t ≠ 0) (h : IsP x y) : IsP (t ^ 4 * x) (t ^ 6 * y) := by
  obtain ⟨h2, h3, hz⟩ := isp_to h
  refine isp_of ?_ ?_ ((isp_nz ht).mpr hz)
  · rcases Int.emod_two_eq t with z | z
    · obtain ⟨k, rfl⟩ : ∃ k, t = 2 * k := ⟨t / 2, by omega⟩
      have e4 : (2 * k) ^ 4 * x = 16 * (k ^ 4 * x) := by grind
      have e6 : (2 * k) ^ 6 * y = 32 * (2 * k ^ 6 * y) := by grind
      rw [e4, e6]
      generalize k ^ 4 * x = p
      generalize 2 * k ^ 6 * y = q
      exact .inl ⟨by omega, .inl (by omega)⟩
    · exact (a2_odd z).mpr h2
  · by_cases z : t % 3 = 0
    · obtain ⟨k, rfl⟩ : ∃ k, t = 3 * k := ⟨t / 3, by omega⟩
      have e4 : (3 * k) ^ 4 * x = 3 * (27 * k ^ 4 * x) := by grind
      have e6 : (3 * k) ^ 6 * y = 27 * (27 * k ^ 6 * y) := by grind
      rw [e4, e6]
      generalize 27 * k ^ 4 * x = p
      generalize 27 * k ^ 6 * y = q
      exact .inl ⟨by omega, by omega⟩
    · exact (a3_no z).mpr h3
/-- from a pair made greater by a and by b, without common factor, to the pair itself -/
theorem isp_down {x y : Int} {a b : Nat} (hab : Nat.Coprime a b) (ha0 : 0 < a) (ha : IsP ((a : Int) ^ 4 * x) ((a : Int) ^ 6 * y)) (hb : IsP ((b : Int) ^ 4 * x) ((b : Int) ^ 6 * y)) : IsP x y := by
  obtain ⟨p2, p3, hz⟩ := isp_to ha
  obtain ⟨q2, q3, -⟩ := isp_to hb
  refine isp_of ?_ ?_ ((isp_nz (by omega)).mp hz)
  · rcases Int.emod_two_eq (a : Int) with z | z
    · rcases Int.emod_two_eq (b : Int) with w | w
      · exfalso
        have h1 : 2 ∣ Nat.gcd a b := Nat.dvd_gcd (by omega) (by omega)
        rw [hab] at h1
        omega
      · exact (a2_odd w).mp q2
    · exact (a2_odd z).mp p2
  · by_cases z : (a : Int) % 3 = 0
    · by_cases w : (b : Int) % 3 = 0
      · exfalso
        have h1 : 3 ∣ Nat.gcd a b := Nat.dvd_gcd (by omega) (by omega)
        rw [hab] at h1
        omega
      · exact (a3_no w).mp q3
    · exact (a3_no z).mp p3
/-- a scale that the pair lets -/
def Lets (c4 c6 : Int) (u : Nat) : Prop := 0 < u ∧ ∃ x y, c4 = (u : Int) ^ 4 * x ∧ c6 = (u : Int) ^ 6 * y ∧ IsP x y
theorem Lets.dvd {c4 c6 : Int} {u v : Nat} (h : Lets c4 c6 u) (hv : v ∣ u) : Lets c4 c6 v := by
  obtain ⟨u0, x, y, e4, e6, hp⟩ := h
  obtain ⟨t, rfl⟩ := hv
  have v0 : 0 < v := Nat.pos_of_mul_pos_right u0
  have t0 : 0 < t := Nat.pos_of_mul_pos_left u0
  refine ⟨v0, (t : Int) ^ 4 * x, (t : Int) ^ 6 * y, ?_, ?_, isp_up (by omega) hp⟩
  · rw [e4, Int.natCast_mul]
    grind
  · rw [e6, Int.natCast_mul]
    grind
theorem pow_part {a b k : Nat} {x z : Int} (hab : Nat.Coprime a b) (hb : 0 < b) (e : (a : Int) ^ k * x = (b : Int) ^ k * z) : ∃ w, x = (b : Int) ^ k * w ∧ z = (a : Int) ^ k * w := by
  have h1 : b ^ k ∣ a ^ k * x.natAbs := by
    refine ⟨z.natAbs, ?_⟩
    have := congrArg Int.natAbs e
    rw [Int.natAbs_mul, Int.natAbs_mul, Int.natAbs_pow, Int.natAbs_pow, Int.natAbs_natCast, Int.natAbs_natCast] at this
    exact this
  have hc : Nat.Coprime (b ^ k) (a ^ k) := (Nat.Coprime.pow k k hab).symm
  obtain ⟨w, hw⟩ := Int.ofNat_dvd_left.mpr (hc.dvd_of_dvd_mul_left h1)
  rw [Int.natCast_pow] at hw
  refine ⟨w, hw, ?_⟩
  have hbk : (b : Int) ^ k ≠ 0 := Int.pow_ne_zero (by omega)
  refine Int.eq_of_mul_eq_mul_left hbk ?_
  rw [← e, hw]
  grind
theorem Lets.lcm {c4 c6 : Int} {u v : Nat} (h : Lets c4 c6 u) (k : Lets c4 c6 v) : ∃ l, u ∣ l ∧ v ∣ l ∧ Lets c4 c6 l := by
  obtain ⟨u0, x, y, e4, e6, hp⟩ := h
  obtain ⟨v0, x', y', f4, f6, kp⟩ := k
  obtain ⟨g, a, b, hg, hc, rfl, rfl⟩ : ∃ g a b : Nat, 0 < g ∧ Nat.Coprime a b ∧ u = a * g ∧ v = b * g := by
    have hg : 0 < Nat.gcd u v := Nat.gcd_pos_of_pos_left _ u0
    exact ⟨Nat.gcd u v, u / Nat.gcd u v, v / Nat.gcd u v, hg, Nat.coprime_div_gcd_div_gcd hg, (Nat.div_mul_cancel (Nat.gcd_dvd_left u v)).symm, (Nat.div_mul_cancel (Nat.gcd_dvd_right u v)).symm⟩
  have a0 : 0 < a := Nat.pos_of_mul_pos_right u0
  have b0 : 0 < b := Nat.pos_of_mul_pos_right v0
  have g4 : (g : Int) ^ 4 ≠ 0 := Int.pow_ne_zero (by omega)
  have g6 : (g : Int) ^ 6 ≠ 0 := Int.pow_ne_zero (by omega)
  rw [Int.natCast_mul] at e4 e6 f4 f6
  obtain ⟨z4, hx, hx'⟩ := pow_part hc b0 (x := x) (z := x') (k := 4) (Int.eq_of_mul_eq_mul_left g4 (by rw [show (g : Int) ^ 4 * ((a : Int) ^ 4 * x) = c4 by rw [e4]; grind, f4]; grind))
  obtain ⟨z6, hy, hy'⟩ := pow_part hc b0 (x := y) (z := y') (k := 6) (Int.eq_of_mul_eq_mul_left g6 (by rw [show (g : Int) ^ 6 * ((a : Int) ^ 6 * y) = c6 by rw [e6]; grind, f6]; grind))
  rw [hx, hy] at hp
  rw [hx', hy'] at kp
  refine ⟨a * b * g, ⟨b, by ac_rfl⟩, ⟨a, by ac_rfl⟩, Nat.mul_pos (Nat.mul_pos a0 b0) hg, z4, z6, ?_, ?_, isp_down hc a0 kp hp⟩
  · rw [e4, hx, Int.natCast_mul, Int.natCast_mul]
    grind
  · rw [e6, hy, Int.natCast_mul, Int.natCast_mul]
    grind
/-- no scale is greater than the pair -/
theorem Lets.le {c4 c6 : Int} {u : Nat} (h : Lets c4 c6 u) (hz : ¬ (c4 = 0 ∧ c6 = 0)) : u ≤ c4.natAbs + c6.natAbs := by
  obtain ⟨u0, x, y, e4, e6, -⟩ := h
  have h4 : c4.natAbs = u ^ 4 * x.natAbs := by rw [e4, Int.natAbs_mul, Int.natAbs_pow, Int.natAbs_natCast]
  have h6 : c6.natAbs = u ^ 6 * y.natAbs := by rw [e6, Int.natAbs_mul, Int.natAbs_pow, Int.natAbs_natCast]
  have l4 : u ≤ u ^ 4 := Nat.le_self_pow (by decide) u
  have l6 : u ≤ u ^ 6 := Nat.le_self_pow (by decide) u
  by_cases x0 : x.natAbs = 0
  · by_cases y0 : y.natAbs = 0
    · exfalso
      rw [x0, Nat.mul_zero] at h4
      rw [y0, Nat.mul_zero] at h6
      omega
    · have := Nat.le_mul_of_pos_right (u ^ 6) (Nat.pos_of_ne_zero y0)
      omega
  · have := Nat.le_mul_of_pos_right (u ^ 4) (Nat.pos_of_ne_zero x0)
    omega
/-- there is one greatest scale, and the scales are its divisors -/
theorem lets_of {c4 c6 : Int} (hz : ¬ (c4 = 0 ∧ c6 = 0)) (h1 : Lets c4 c6 1) : ∃ w, Lets c4 c6 w ∧ ∀ u, Lets c4 c6 u ↔ 0 < u ∧ u ∣ w := by
  have key : ∀ (n m : Nat), Lets c4 c6 m → c4.natAbs + c6.natAbs ≤ m + n → ∃ w, Lets c4 c6 w ∧ ∀ u, Lets c4 c6 u → u ∣ w := by
    intro n
    induction n with
    | zero =>
      intro m hm hn
      refine ⟨m, hm, fun u hu => ?_⟩
      obtain ⟨l, ul, ml, hl⟩ := hu.lcm hm
      have lm := Nat.le_of_dvd hl.1 ml
      have := hl.le hz
      have : l = m := by omega
      rw [← this]
      exact ul
    | succ n ih =>
      intro m hm hn
      by_cases z : ∀ u, Lets c4 c6 u → u ∣ m
      · exact ⟨m, hm, z⟩
      · obtain ⟨u, hu⟩ := Classical.not_forall.mp z
        obtain ⟨hu, nu⟩ := Classical.not_imp.mp hu
        obtain ⟨l, ul, ml, hl⟩ := hu.lcm hm
        have lm := Nat.le_of_dvd hl.1 ml
        have ne : l ≠ m := fun e => nu (e ▸ ul)
        exact ih l hl (by omega)
  obtain ⟨w, hw, h⟩ := key (c4.natAbs + c6.natAbs) 1 h1 (by omega)
  exact ⟨w, hw, fun u => ⟨fun hu => ⟨hu.1, h u hu⟩, fun hu => hw.dvd hu.2⟩⟩
end K13
set_option linter.all false
/-! short forms: plain Lean -/
namespace K08M
/-- nothing can be divided out -/
def Sh (a b : Int) : Prop := ∀ p : Nat, 2 ≤ p → p ^ 4 ∣ a.natAbs → ¬ p ^ 6 ∣ b.natAbs
theorem pow_cop {u v k m : Nat} (h : Nat.Coprime u v) : Nat.Coprime (u ^ k) (v ^ m) := Nat.Coprime.pow k m h
/-- from u ^ k A = v ^ k B with u, v without common factor: v ^ k divides A -/
theorem part_dvd {u v k A B : Nat} (h : Nat.Coprime u v) (e : u ^ k * A = v ^ k * B) : v ^ k ∣ A := by
  have h1 : v ^ k ∣ u ^ k * A := ⟨B, e⟩
  exact Nat.Coprime.dvd_of_dvd_mul_left (pow_cop h).symm h1
theorem uniqN {u v : Nat} {A B C D : Int} (hu : 0 < u) (hv : 0 < v) (h4 : u ^ 4 * A.natAbs = v ^ 4 * C.natAbs) (h6 : u ^ 6 * B.natAbs = v ^ 6 * D.natAbs) (s1 : Sh A B) (s2 : Sh C D) : u = v := by
  obtain ⟨g, x, y, hg, hc, rfl, rfl⟩ : ∃ g x y : Nat, 0 < g ∧ Nat.Coprime x y ∧ u = x * g ∧ v = y * g := by
    have hg : 0 < Nat.gcd u v := Nat.gcd_pos_of_pos_left _ hu
    refine ⟨Nat.gcd u v, u / Nat.gcd u v, v / Nat.gcd u v, hg, Nat.coprime_div_gcd_div_gcd hg, ?_, ?_⟩
    · exact (Nat.div_mul_cancel (Nat.gcd_dvd_left u v)).symm
    · exact (Nat.div_mul_cancel (Nat.gcd_dvd_right u v)).symm
  have g4 : 0 < g ^ 4 := Nat.pow_pos hg
  have g6 : 0 < g ^ 6 := Nat.pow_pos hg
  have k4 : x ^ 4 * A.natAbs = y ^ 4 * C.natAbs := by
    rw [Nat.mul_pow, Nat.mul_pow] at h4
    refine Nat.eq_of_mul_eq_mul_left g4 ?_
    calc g ^ 4 * (x ^ 4 * A.natAbs) = x ^ 4 * g ^ 4 * A.natAbs := by rw [← Nat.mul_assoc, Nat.mul_comm (g ^ 4)]
      _ = y ^ 4 * g ^ 4 * C.natAbs := h4
      _ = _ := by rw [Nat.mul_comm (y ^ 4), Nat.mul_assoc]
  have k6 : x ^ 6 * B.natAbs = y ^ 6 * D.natAbs := by
    rw [Nat.mul_pow, Nat.mul_pow] at h6
    refine Nat.eq_of_mul_eq_mul_left g6 ?_
    calc g ^ 6 * (x ^ 6 * B.natAbs) = x ^ 6 * g ^ 6 * B.natAbs := by rw [← Nat.mul_assoc, Nat.mul_comm (g ^ 6)]
      _ = y ^ 6 * g ^ 6 * D.natAbs := h6
      _ = _ := by rw [Nat.mul_comm (y ^ 6), Nat.mul_assoc]
  have hx : 0 < x := Nat.pos_of_ne_zero (fun z => by rw [z, Nat.zero_mul] at hu; exact absurd hu (Nat.lt_irrefl _))
  have hy : 0 < y := Nat.pos_of_ne_zero (fun z => by rw [z, Nat.zero_mul] at hv; exact absurd hv (Nat.lt_irrefl _))
  have y1 : y = 1 := by
    rcases Nat.lt_or_ge y 2 with z | z
    · omega
    · exact absurd (part_dvd hc k6) (s1 y z (part_dvd hc k4))
  have x1 : x = 1 := by
    rcases Nat.lt_or_ge x 2 with z | z
    · omega
    · exact absurd (part_dvd hc.symm k6.symm) (s2 x z (part_dvd hc.symm k4.symm))
  rw [x1, y1]
/-- one form alone: (a, b) = (u ^ 4 A, u ^ 6 B) = (v ^ 4 C, v ^ 6 D) -/
theorem uniq {u v : Nat} {a b A B C D : Int} (hu : 0 < u) (hv : 0 < v) (e1 : a = (u : Int) ^ 4 * A) (e2 : b = (u : Int) ^ 6 * B) (e3 : a = (v : Int) ^ 4 * C) (e4 : b = (v : Int) ^ 6 * D) (s1 : Sh A B) (s2 : Sh C D) : A = C ∧ B = D := by
  have n : ∀ (w : Nat) (k : Nat) (X : Int), ((w : Int) ^ k * X).natAbs = w ^ k * X.natAbs := fun w k X => by
    rw [Int.natAbs_mul, Int.natAbs_pow, Int.natAbs_natCast]
  have h4 : u ^ 4 * A.natAbs = v ^ 4 * C.natAbs := by
    rw [← n, ← n, ← e1, e3]
  have h6 : u ^ 6 * B.natAbs = v ^ 6 * D.natAbs := by
    rw [← n, ← n, ← e2, e4]
  have uv := uniqN hu hv h4 h6 s1 s2
  subst uv
  have p4 : (u : Int) ^ 4 ≠ 0 := Int.ne_of_gt (Int.pow_pos (by omega))
  have p6 : (u : Int) ^ 6 ≠ 0 := Int.ne_of_gt (Int.pow_pos (by omega))
  exact ⟨Int.eq_of_mul_eq_mul_left p4 (e1.symm.trans e3), Int.eq_of_mul_eq_mul_left p6 (e2.symm.trans e4)⟩
/-- the least divisor from 2 on -/
theorem least_div {q : Nat} (h : 2 ≤ q) : ∃ d, 2 ≤ d ∧ d ∣ q ∧ ∀ e, 2 ≤ e → e ∣ d → e = d := by
  induction q using Nat.strongRecOn with
  | ind q ih =>
    by_cases z : ∃ e, 2 ≤ e ∧ e ∣ q ∧ e ≠ q
    · obtain ⟨e, e2, eq, ne⟩ := z
      have hlt : e < q := Nat.lt_of_le_of_ne (Nat.le_of_dvd (by omega) eq) ne
      obtain ⟨d, d2, dd, hd⟩ := ih e hlt e2
      exact ⟨d, d2, Nat.dvd_trans dd eq, hd⟩
    · refine ⟨q, h, Nat.dvd_refl q, fun e e2 eq => ?_⟩
      rcases Nat.eq_or_lt_of_le (Nat.le_of_dvd (by omega) eq) with y | y
      · exact y
      · exact absurd ⟨e, e2, eq, by omega⟩ z
/-- such a one and a smaller number have no common factor -/
theorem irr_cop {d p : Nat} (h : ∀ e, 2 ≤ e → e ∣ d → e = d) (hd : 2 ≤ d) (hp : 0 < p) (hlt : p < d) : Nat.Coprime d p := by
  have h1 : Nat.gcd d p ∣ d := Nat.gcd_dvd_left d p
  have h2 : Nat.gcd d p ≤ p := Nat.gcd_le_right _ hp
  have h3 : 0 < Nat.gcd d p := Nat.gcd_pos_of_pos_right _ hp
  unfold Nat.Coprime
  rcases Nat.lt_or_ge (Nat.gcd d p) 2 with z | z
  · omega
  · have := h _ z h1
    omega
theorem sh_of_irr {a b : Int} (h : ∀ d, 2 ≤ d → (∀ e, 2 ≤ e → e ∣ d → e = d) → d ^ 4 ∣ a.natAbs → ¬ d ^ 6 ∣ b.natAbs) : Sh a b := by
  intro p hp h4 h6
  obtain ⟨d, d2, dp, hd⟩ := least_div hp
  exact h d d2 hd (Nat.dvd_trans (Nat.pow_dvd_pow_iff (by decide) |>.mpr dp) h4) (Nat.dvd_trans (Nat.pow_dvd_pow_iff (by decide) |>.mpr dp) h6)
end K08M
set_option linter.all false
/-! the short form by dividing: plain Lean -/
namespace K08M
/-- no divisor but 1 and itself -/
def Irr (d : Nat) : Prop := 2 ≤ d ∧ ∀ e, 2 ≤ e → e ∣ d → e = d
/-- d can be divided out -/
def Cut (d : Nat) (a b : Int) : Prop := d ^ 4 ∣ a.natAbs ∧ d ^ 6 ∣ b.natAbs
/-- (a, b) is (A, B) made greater -/
def Up (a b A B : Int) : Prop := ∃ u : Nat, 0 < u ∧ a = (u : Int) ^ 4 * A ∧ b = (u : Int) ^ 6 * B
theorem Up.refl (a b : Int) : Up a b a b := ⟨1, by decide, by simp, by simp⟩
theorem Up.trans {a b c d e f : Int} (h : Up a b c d) (h2 : Up c d e f) : Up a b e f := by
  obtain ⟨u, hu, rfl, rfl⟩ := h
  obtain ⟨v, hv, rfl, rfl⟩ := h2
  refine ⟨u * v, Nat.mul_pos hu hv, ?_, ?_⟩
  · rw [Int.natCast_mul, Int.mul_pow, Int.mul_assoc]
  · rw [Int.natCast_mul, Int.mul_pow, Int.mul_assoc]
theorem Up.one {a b A B : Int} {p : Nat} (hp : 0 < p) (h4 : a = (p : Int) ^ 4 * A) (h6 : b = (p : Int) ^ 6 * B) : Up a b A B := ⟨p, hp, h4, h6⟩
theorem Up.cut {a b A B : Int} (h : Up a b A B) {d : Nat} (c : Cut d A B) : Cut d a b := by
  obtain ⟨u, hu, rfl, rfl⟩ := h
  refine ⟨?_, ?_⟩
  · rw [Int.natAbs_mul]; exact Nat.dvd_mul_left_of_dvd c.1 _
  · rw [Int.natAbs_mul]; exact Nat.dvd_mul_left_of_dvd c.2 _
theorem Up.nz {a b A B : Int} (h : Up a b A B) (n : ¬ (a = 0 ∧ b = 0)) : ¬ (A = 0 ∧ B = 0) := by
  obtain ⟨u, hu, rfl, rfl⟩ := h
  rintro ⟨rfl, rfl⟩
  exact n ⟨Int.mul_zero _, Int.mul_zero _⟩
theorem Up.zero {a b A B : Int} (h : Up a b A B) : a = 0 ↔ A = 0 := by
  obtain ⟨u, hu, rfl, rfl⟩ := h
  have p4 : (u : Int) ^ 4 ≠ 0 := Int.ne_of_gt (Int.pow_pos (by omega))
  constructor
  · intro e
    rcases Int.mul_eq_zero.mp e with z | z
    · exact absurd z p4
    · exact z
  · rintro rfl
    exact Int.mul_zero _
theorem Up.one_form {a b A B C D : Int} (h : Up a b A B) (h2 : Up a b C D) (s : Sh A B) (s2 : Sh C D) : A = C ∧ B = D := by
  obtain ⟨u, hu, e1, e2⟩ := h
  obtain ⟨v, hv, e3, e4⟩ := h2
  exact uniq hu hv e1 e2 e3 e4 s s2
theorem sh_of_cut {a b : Int} (h : ∀ d, Irr d → ¬ Cut d a b) : Sh a b :=
  sh_of_irr (fun d d2 hd c4 c6 => h d ⟨d2, hd⟩ ⟨c4, c6⟩)
/-- the law's end: p ** 4 or p ** 6 is too great -/
theorem sh_law {a b : Int} {p : Nat} (nz : ¬ (a = 0 ∧ b = 0)) (h : ∀ d, 2 ≤ d → d < p → ¬ Cut d a b) (e : a ≠ 0 → a.natAbs < p ^ 4) (e' : a = 0 → b.natAbs < p ^ 6) : Sh a b := by
  refine sh_of_cut (fun d hd c => ?_)
  rcases Nat.lt_or_ge d p with z | z
  · exact h d hd.1 z c
  · by_cases a0 : a = 0
    · have b0 : 0 < b.natAbs := by
        have : b ≠ 0 := fun y => nz ⟨a0, y⟩
        omega
      have h1 := Nat.le_of_dvd b0 c.2
      have h2 : p ^ 6 ≤ d ^ 6 := Nat.pow_le_pow_left z 6
      have h3 := e' a0
      omega
    · have h1 := Nat.le_of_dvd (by omega) c.1
      have h2 : p ^ 4 ≤ d ^ 4 := Nat.pow_le_pow_left z 4
      have h3 := e a0
      omega
/-- the program's end: the root of what is left is below p -/
theorem sh_prog {a b : Int} {p rest least most : Nat} (hr : 0 < rest) (h : ∀ d, Irr d → d < p → ¬ Cut d a b) (g : ∀ d, Irr d → p ≤ d → Cut d a b → d ^ least ∣ rest) (hm : rest < (most + 1) ^ least) (hp : most < p) : Sh a b := by
  refine sh_of_cut (fun d hd c => ?_)
  rcases Nat.lt_or_ge d p with z | z
  · exact h d hd z c
  · have h1 := Nat.le_of_dvd hr (g d hd z c)
    have h2 : (most + 1) ^ least ≤ d ^ least := Nat.pow_le_pow_left (by omega) least
    omega
/-- p is divided out of what is left -/
theorem strip {q p k r least : Nat} (hq : Irr q) (hp : 0 < p) (hlt : p < q) (h : q ^ least ∣ p ^ k * r) : q ^ least ∣ r :=
  Nat.Coprime.dvd_of_dvd_mul_left (pow_cop (irr_cop hq.2 hq.1 hp hlt)) h
/-- one turn of the program's loop where p divides nothing -/
theorem turn_no {a b : Int} {p rest least : Nat} (hl : 0 < least) (h : ∀ d, Irr d → d < p → ¬ Cut d a b) (g : ∀ d, Irr d → p ≤ d → Cut d a b → d ^ least ∣ rest) (hp : ¬ p ∣ rest) : (∀ d, Irr d → d < p + 1 → ¬ Cut d a b) ∧ ∀ d, Irr d → p + 1 ≤ d → Cut d a b → d ^ least ∣ rest := by
  refine ⟨fun d hd lt c => ?_, fun d hd le c => g d hd (by omega) c⟩
  rcases Nat.lt_or_ge d p with z | z
  · exact h d hd z c
  · have e : d = p := by omega
    subst e
    exact hp (Nat.dvd_trans (Nat.dvd_of_pow_dvd hl (Nat.dvd_refl _)) (g d hd z c))
/-- one turn where p divides: (a, b) becomes (A, B), what is left is p ^ k r -/
theorem turn_yes {a b A B : Int} {p k r least : Nat} (h0 : 0 < p) (u : Up a b A B) (n : ¬ Cut p A B) (h : ∀ d, Irr d → d < p → ¬ Cut d a b) (g : ∀ d, Irr d → p ≤ d → Cut d a b → d ^ least ∣ p ^ k * r) : (∀ d, Irr d → d < p + 1 → ¬ Cut d A B) ∧ ∀ d, Irr d → p + 1 ≤ d → Cut d A B → d ^ least ∣ r := by
  refine ⟨fun d hd lt c => ?_, fun d hd le c => strip hd h0 (by omega) (g d hd (by omega) (u.cut c))⟩
  rcases Nat.lt_or_ge d p with z | z
  · exact h d hd z (u.cut c)
  · have e : d = p := by omega
    subst e
    exact n c
/-- its beginning -/
theorem start_gcd (a b : Int) (d : Nat) (c : Cut d a b) : d ^ 4 ∣ Nat.gcd a.natAbs b.natAbs :=
  Nat.dvd_gcd c.1 (Nat.dvd_trans (Nat.pow_dvd_pow d (by decide)) c.2)
theorem start_zero (a b : Int) (d : Nat) (c : Cut d a b) : d ^ 6 ∣ b.natAbs := c.2
/-- dividing once by p, as Python divides -/
theorem up_div {a b : Int} {p : Nat} (hp : 0 < p) (c : Cut p a b) : Up a b (a.fdiv ((p : Int) ^ 4)) (b.fdiv ((p : Int) ^ 6)) := by
  have f : ∀ (x : Int) (k : Nat), p ^ k ∣ x.natAbs → x = (p : Int) ^ k * x.fdiv ((p : Int) ^ k) := by
    intro x k h
    have h1 : (p : Int) ^ k ∣ x := by
      rw [← Int.natCast_pow]
      exact Int.ofNat_dvd_left.mpr h
    rw [Int.fdiv_eq_ediv_of_dvd h1]
    exact (Int.mul_ediv_cancel' h1).symm
  exact ⟨p, hp, f a 4 c.1, f b 6 c.2⟩
theorem cut_iff {a b : Int} {p : Nat} : Cut p a b ↔ a.fmod ((p : Int) ^ 4) = 0 ∧ b.fmod ((p : Int) ^ 6) = 0 := by
  have f : ∀ (x : Int) (k : Nat), p ^ k ∣ x.natAbs ↔ x.fmod ((p : Int) ^ k) = 0 := by
    intro x k
    rw [← Int.natCast_pow, ← Int.dvd_iff_fmod_eq_zero]
    exact Int.ofNat_dvd_left.symm
  unfold Cut
  rw [f, f]
end K08M
set_option Elab.async false
set_option linter.all false
set_option maxRecDepth 100000
set_option maxHeartbeats 4000000
namespace K13
open PySem PySem.Spec PyProof.Rows L2 Gd QM
section
variable {P : Program} {w : World} {K : PySem.W.Frag} {mg : Str → Option Value} {base : Heap}
/-! ### power -/
theorem pw_odd (y x : Int) {j : Nat} (h : j % 2 = 1) : y * x ^ j = y * x * (x * x) ^ (j / 2) := by
  have e : j = 2 * (j / 2) + 1 := by omega
  have e2 : x ^ j = x ^ (j / 2) * x ^ (j / 2) * x := by
    calc x ^ j = x ^ (2 * (j / 2) + 1) := by rw [← e]
      _ = _ := by rw [Int.pow_succ, Nat.two_mul, Int.pow_add]
  have e3 : (x * x) ^ (j / 2) = x ^ (j / 2) * x ^ (j / 2) := Int.mul_pow ..
  rw [e2, e3]
  grind
theorem pw_even (y x : Int) {j : Nat} (h : j % 2 = 0) : y * x ^ j = y * (x * x) ^ (j / 2) := by
  have e : j = 2 * (j / 2) := by omega
  have e2 : x ^ j = x ^ (j / 2) * x ^ (j / 2) := by
    calc x ^ j = x ^ (2 * (j / 2)) := by rw [← e]
      _ = _ := by rw [Nat.two_mul, Int.pow_add]
  have e3 : (x * x) ^ (j / 2) = x ^ (j / 2) * x ^ (j / 2) := Int.mul_pow ..
  rw [e2, e3]
def sp_power (K : PySem.W.Frag) : Sp := fun vs H Q _ => ∃ (a e : Int), vs = [.int a, .int e] ∧ 0 ≤ e ∧ e ≤ 8 ∧ B 400 a ∧ Q (.int (a ^ e.toNat)) H
abbrev s_power : Stmt := topS 6
theorem sc_power : FnScope ["a", "e", "result"] ["a", "e"] (defScope s_power) := ⟨rfl, rfl, rfl, by decide +kernel, rfl, by decide +kernel, by decide +kernel⟩
theorem k_power (T : Tx K mg) (D : Df K mg "power" s_power ["a", "e"])  : Kl P w K mg base 1 "power" (sp_power K) := by
  have nd := sc_power.nd
  refine Kl.by_body D sc_power (fun vs H Q E h => ?_) (fun f cdv A outer s H vs Q E hr h => ?_)
  · obtain ⟨_, _, rfl, _⟩ := h
    rfl
  · obtain ⟨a, e, rfl, h0, h8, ha, q⟩ := h
    have hu1 := hu_of hr
    refine ⟨_, (pss_cons (ps_set (i := 2) nd rfl (by first | exact Or.inl rfl | exact Or.inr rfl) pe_int)
      (pss_cons (ps_while PassesOwn.never (pt_cmpR op_gt (pv 1) pe_int (nomark _)) (C8.pss_cut (ps_if (pt_truth (pe_op op_and (pv 1) pe_int) (fun _ => rfl)) (pss_one (ps_set (i := 2) nd rfl (by first | exact Or.inl rfl | exact Or.inr rfl) (pe_op op_mulW (pv 2) (pv 0)))) pss_nil)
      (pss_cons (ps_set (i := 1) nd rfl (by first | exact Or.inl rfl | exact Or.inr rfl) (pe_op op_shr (pv 1) pe_int))
      (pss_one (ps_if (pt_cmpR op_gt (pv 1) pe_int (nomark _)) (pss_one (ps_set (i := 0) nd rfl (by first | exact Or.inl rfl | exact Or.inr rfl) (pe_op op_mulW (pv 0) (pv 0)))) pss_nil)))))
      (pss_one (ps_ret (pv 2))))), ?_⟩
    refine while_by (fun σ H2 => ∃ (x y : Int) (j i : Nat), σ = [some (.int x), some (.int (j : Int)), some (.int y)] ∧ H2 = H ∧ y * x ^ j = a ^ e.toNat ∧ j * 2 ^ i ≤ 8 ∧ (j ≠ 0 → B (400 * 2 ^ i) x) ∧ B (400 * 2 ^ i) y ∧ i ≤ 4)
      (fun σ _ => match σ with | [_, some (.int j), _] => j.toNat | _ => 0) ⟨a, 1, e.toNat, 0, ?_, rfl, Int.one_mul _, by omega, fun _ => ha, B.lit (by decide), by decide⟩ ?_ ?_
    · rw [show ((e.toNat : Nat) : Int) = e by omega]
      rfl
    · rintro σ H2 ⟨x, y, j, i, rfl, rfl, h1, h2, h3, h4, h5⟩
      refine ⟨_, rfl, _, _, rfl, rfl, _, rfl, ?_⟩
      by_cases hj : j = 0
      · subst hj
        refine iteN (by simp) ?_
        refine ⟨_, rfl, ?_⟩
        rw [Int.pow_zero, Int.mul_one] at h1
        rw [h1]
        exact q
      · refine iteY (by simp; omega) ?_
        have hx := h3 hj
        have hi : i ≤ 3 := by
          rcases Nat.lt_or_ge 3 i with z | z
          · have h6 : 1 * 2 ^ 4 ≤ j * 2 ^ i := Nat.mul_le_mul (by omega) (Nat.pow_le_pow_right (by decide) z)
            omega
          · exact z
        have e2 : 400 * 2 ^ (i + 1) = 400 * 2 ^ i + 400 * 2 ^ i := by rw [Nat.pow_succ]; omega
        have hw : 400 * 2 ^ i ≤ 3200 := by
          have h6 : 2 ^ i ≤ 2 ^ 3 := Nat.pow_le_pow_right (by decide) hi
          omega
        have hd : (j / 2) * 2 ^ (i + 1) ≤ 8 := by
          rw [Nat.pow_succ]
          have h6 : (j / 2) * 2 ≤ j := Nat.div_mul_le_self j 2
          have h7 : (j / 2) * 2 * 2 ^ i ≤ j * 2 ^ i := Nat.mul_le_mul_right _ h6
          calc j / 2 * (2 ^ i * 2) = (j / 2) * 2 * 2 ^ i := by rw [Nat.mul_comm (2 ^ i) 2, Nat.mul_assoc]
            _ ≤ _ := Nat.le_trans h7 h2
        refine ⟨fun σ H3 => H3 = H2 ∧ σ = [some (.int x), some (.int (j : Int)), some (.int (if j % 2 = 1 then y * x else y))], ?_, ?_⟩
        · refine ⟨_, rfl, (j : Int), 1, rfl, rfl, _, rfl, ?_⟩
          rw [bitAnd_m1]
          by_cases hp : j % 2 = 1
          · refine iteY (by simp; omega) ?_
            refine ⟨_, rfl, _, rfl, _, _, rfl, rfl, h4.mulW hx (by omega), rfl, ?_⟩
            rw [if_pos hp]
            rfl
          · refine iteN (by simp; omega) ?_
            refine ⟨rfl, ?_⟩
            rw [if_neg hp]
        · rintro σ H3 ⟨rfl, rfl⟩
          refine ⟨_, rfl, _, _, rfl, rfl, by omega, ?_⟩
          have hy : B (400 * 2 ^ (i + 1)) (if j % 2 = 1 then y * x else y) := by
            rw [e2]
            split
            · exact h4.mul hx
            · exact h4.up (by omega)
          have hj2 : (j : Int) / 2 ^ (1 : Int).toNat = ((j / 2 : Nat) : Int) := by
            show (j : Int) / 2 = _
            omega
          refine sigN [some (.int x), some (.int ((j / 2 : Nat) : Int)), some (.int (if j % 2 = 1 then y * x else y))] (by rw [← hj2]; rfl) ?_
          refine ⟨_, rfl, _, _, rfl, rfl, _, rfl, ?_⟩
          by_cases hk : j / 2 = 0
          · rw [hk]
            refine iteN (by simp) ?_
            have hj1 : j = 1 := by omega
            subst hj1
            rw [Int.pow_one] at h1
            exact ⟨⟨x, _, 0, i + 1, rfl, rfl, (by rw [Int.pow_zero, Int.mul_one]; exact h1), by omega, fun z => absurd rfl z, hy, by omega⟩, by show (0 : Int).toNat < ((1 : Nat) : Int).toNat; decide⟩
          · refine iteY (by simp; omega) ?_
            refine ⟨_, rfl, _, rfl, _, _, rfl, rfl, hx.mulW hx (by omega), ?_⟩
            refine ⟨⟨x * x, _, j / 2, i + 1, rfl, rfl, ?_, hd, fun _ => ?_, hy, by omega⟩, ?_⟩
            · rw [← h1]
              split
              · rename_i hp
                exact (pw_odd y x hp).symm
              · rename_i hp
                exact (pw_even y x (by omega)).symm
            · rw [e2]
              exact hx.mul hx
            · show ((j / 2 : Nat) : Int).toNat < ((j : Nat) : Int).toNat
              omega
    · rintro σ H2 Q1 Q2 i ⟨v, hv, x, y, e1, e2, k, e, z⟩
      exact ⟨v, hv, x, y, e1, e2, k, e, i _ _ z⟩
/-! ### root_of -/
def sp_root_of (K : PySem.W.Frag) : Sp := fun vs H Q _ => ∃ (n : Int) (m : Nat), vs = [.int n, .int ((m : Int) + 1)] ∧ 0 ≤ n ∧ B 200 n ∧ 1 ≤ m ∧ m ≤ 5 ∧ ∀ r, 0 ≤ r → B 400 r → r ^ (m + 1) ≤ n → (∀ s, 0 ≤ s → s ^ (m + 1) ≤ n → s ≤ r) → Q (.int r) H
abbrev s_root_of : Stmt := topS 8
theorem sc_root_of : FnScope ["n", "k", "r", "better"] ["n", "k"] (defScope s_root_of) := ⟨rfl, rfl, rfl, by decide +kernel, rfl, by decide +kernel, by decide +kernel⟩
theorem k_root_of (T : Tx K mg) (D : Df K mg "root_of" s_root_of ["n", "k"]) (c_power : Kl P w K mg base 1 "power" (sp_power K)) : Kl P w K mg base 2 "root_of" (sp_root_of K) := by
  have nd := sc_root_of.nd
  refine Kl.by_body D sc_root_of (fun vs H Q E h => ?_) (fun f cdv A outer s H vs Q E hr h => ?_)
  · obtain ⟨_, _, rfl, _⟩ := h
    rfl
  · obtain ⟨n, m, rfl, h0, hn, hm1, hm5, q⟩ := h
    have hu1 := hu_of hr
    refine ⟨_, (pss_cons (ps_if (PW.pt (pw_or (pt_cmpR op_lt (pv 0) pe_int (nomark _)) (pw_or1 (pt_cmpR op_eq (pv 1) pe_int (nomark _))))) (pss_one (ps_ret (pv 0))) pss_nil)
      (pss_cons (ps_if (pt_cmpR op_eq (pv 1) pe_int (nomark _)) (pss_one (ps_ret (pe_callBfun cr_isqrt (by rfl) T.isqrt (pa_cons (pv 0) pa_nil)))) pss_nil)
      (pss_cons (ps_set (i := 2) nd rfl (by first | exact Or.inl rfl | exact Or.inr rfl) (pe_op op_shlN pe_int (pe_op op_add (pe_op op_fdivAny (pe_bits (pv 0)) (pv 1)) pe_int)))
      (pss_one (ps_while PassesOwn.never (pt_val pe_bl) (pss_cons (ps_set (i := 3) nd rfl (by first | exact Or.inl rfl | exact Or.inr rfl) (pe_op op_fdivAny (pe_op op_add (pe_op op_mulW (pe_op op_sub (pv 1) pe_int) (pv 2)) (pe_op op_fdivAny (pv 0) (pe_k c_power  hr (by decide) (by rfl) (pa_cons (pv 2) (pa_cons (pe_op op_sub (pv 1) pe_int) pa_nil))))) (pv 1)))
      (pss_cons (ps_if (pt_cmpR op_ge (pv 3) (pv 2) (nomark _)) (pss_one (ps_ret (pv 2))) pss_nil)
      (pss_one (ps_set (i := 2) nd rfl (by first | exact Or.inl rfl | exact Or.inr rfl) (pv 3)))))))))), ?_⟩
    have bm : B 4 ((m : Int) + 1) := by
      unfold B
      omega
    refine ⟨_, rfl, n, 2, rfl, rfl, _, rfl, ?_⟩
    by_cases hn2 : n < 2
    · refine iteY (by simpa using hn2) ?_
      exact ⟨_, rfl, q n h0 (hn.up (by decide)) (pow01 h0 hn2 (by omega)) (fun s hs h => small_root hs (by omega) h)⟩
    · refine iteN (by simpa using hn2) ?_
      refine ⟨_, rfl, rfl, _, rfl, ?_⟩
      rw [dec_int]
      refine iteN (by simp; omega) ?_
      refine ⟨_, rfl, rfl, _, rfl, ?_⟩
      rw [dec_int]
      by_cases hk2 : (m : Int) + 1 = 2
      · refine iteY (by simpa using hk2) ?_
        obtain rfl : m = 1 := by omega
        obtain ⟨z1, z2⟩ := isqrt_is h0
        have hB4 : n.natAbs < 2 ^ 4000 := hn.up (n := 4000) (by decide)
        refine ⟨_, rfl, n, rfl, h0, hB4, ?_⟩
        generalize ((PySem.Float64.isqrt n.toNat : Nat) : Int) = y at z1 z2
        have hy0 : 0 ≤ y := by
          have := z2 0 (by decide) (by omega)
          omega
        have hyn : y ≤ n := by
          rcases (show y = 0 ∨ 1 ≤ y by omega) with e | e
          · omega
          · have := Int.mul_le_mul_of_nonneg_left e hy0
            omega
        have hyB : B 400 y := by
          refine B.up (m := 200) ?_ (by decide)
          unfold B at hn ⊢
          omega
        exact q y hy0 hyB (by rw [Int.pow_succ, Int.pow_succ, Int.pow_zero, Int.one_mul]; exact z1) (fun s hs h => z2 s hs (by rw [Int.pow_succ, Int.pow_succ, Int.pow_zero, Int.one_mul] at h; exact h))
      refine iteN (by simpa using hk2) ?_
      have hdv : ((Builtin.Int.intBits n : Nat) : Int).fdiv ((m : Int) + 1) + 1 = ((Builtin.Int.intBits n / (m + 1) + 1 : Nat) : Int) := by
        rw [Int.fdiv_eq_ediv_of_nonneg _ (by omega)]
        push_cast
        rfl
      have hbl : Builtin.Int.intBits n ≤ 200 := PyProof.Rows.intBits_le hn
      have hb2 : n.natAbs < 2 ^ Builtin.Int.intBits n := by
        unfold Builtin.Int.intBits
        rw [if_neg (by simp; omega)]
        exact Nat.lt_log2_self
      have hdl : Builtin.Int.intBits n / (m + 1) ≤ 100 := by
        have h1 : Builtin.Int.intBits n / (m + 1) ≤ Builtin.Int.intBits n / 2 := Nat.div_le_div_left (by omega) (by decide)
        omega
      refine ⟨_, rfl, n, rfl, _, rfl, _, _, rfl, rfl, div_any (by omega) bm (by decide), _, _, rfl, rfl, 1, Builtin.Int.intBits n / (m + 1) + 1, rfl, congrArg V.int hdv, shl_ok (n := 1) (by decide) (by omega), ?_⟩
      have hB : B 120 (1 * 2 ^ (Builtin.Int.intBits n / (m + 1) + 1) : Int) := by
        unfold B
        rw [Int.one_mul, Int.natAbs_pow]
        exact Nat.pow_lt_pow_right (by decide) (by omega)
      have hP : (1 : Int) ≤ 1 * 2 ^ (Builtin.Int.intBits n / (m + 1) + 1) := by
        have : (0 : Int) < 2 ^ (Builtin.Int.intBits n / (m + 1) + 1) := Int.pow_pos (by decide)
        omega
      refine while_by (fun σ H2 => ∃ (r : Int) (v : Option V), σ = [some (.int n), some (.int ((m : Int) + 1)), some (.int r), v] ∧ H2 = H ∧ 1 ≤ r ∧ B 120 r ∧ ∀ s, 0 ≤ s → s ^ (m + 1) ≤ n → s ≤ r)
        (fun σ _ => match σ with | [_, _, some (.int r), _] => r.toNat | _ => 0) ⟨_, none, rfl, rfl, hP, hB, fun s hs h => start_ge hs hb2 (by omega) h⟩ ?_ ?_
      · rintro σ H2 ⟨r, v, rfl, rfl, h1, hr2, hup⟩
        refine ⟨true, rfl, iteY rfl ?_⟩
        have e1 : (m : Int) + 1 - 1 = m := by omega
        have hpB : B 800 (r ^ m) := (hr2.pow m).up (by omega)
        have hp0 : 0 < r ^ m := Int.pow_pos (by omega)
        refine ⟨_, rfl, _, _, rfl, rfl, _, rfl, _, _, rfl, rfl, B.mulW (m := 4) (n := 120) (by unfold B; omega) hr2 (by decide), _, rfl, _, rfl, _, rfl, _, _, rfl, rfl, r, (m : Int), congrArg (fun z => [V.int r, V.int z]) e1, by omega, by omega, hr2.up (by decide), ?_⟩
        refine ⟨n, r ^ m, rfl, rfl, div_any (by omega) hpB (by decide), _, _, rfl, rfl, _, rfl, _, _, rfl, rfl, div_any (by omega) bm (by decide), ?_⟩
        refine sigN [some (.int n), some (.int ((m : Int) + 1)), some (.int r), some (.int (((m : Int) * r + n.fdiv (r ^ m)).fdiv ((m : Int) + 1)))] (by show [some (V.int n), some (V.int ((m : Int) + 1)), some (V.int r), some (V.int ((((m : Int) + 1 - 1) * r + n.fdiv (r ^ m)).fdiv ((m : Int) + 1)))] = _; rw [e1]) ?_
        have g1 := newton_ge (n := n) (r := r) (s := 1) (k := m) h1 (by decide) (by rw [Int.one_pow]; omega)
        refine ⟨_, rfl, _, rfl, _, _, rfl, rfl, _, rfl, ?_⟩
        by_cases hge : r ≤ ((m : Int) * r + n.fdiv (r ^ m)).fdiv ((m : Int) + 1)
        · refine iteY (by simpa using hge) ?_
          exact ⟨_, rfl, q r (by omega) (hr2.up (by decide)) (newton_le h1 hge) hup⟩
        · refine iteN (by simpa using hge) ?_
          refine ⟨_, rfl, ⟨_, _, rfl, rfl, g1, ?_, fun s hs h => newton_ge h1 hs h⟩, ?_⟩
          · unfold B at *
            omega
          · show Int.toNat _ < Int.toNat _
            omega
      · rintro σ H2 Q1 Q2 i ⟨c, hc, z⟩
        exact ⟨c, hc, i _ _ z⟩
/-! ### exact_root, where there is a root -/
def sp_exact_root (K : PySem.W.Frag) : Sp := fun vs H Q _ => ∃ (n r : Int) (m : Nat), vs = [.int n, .int ((m : Int) + 1)] ∧ B 200 n ∧ (1 ≤ m ∧ m ≤ 5) ∧ 0 ≤ r ∧ r ^ (m + 1) = n ∧ Q (.int r) H
abbrev s_exact_root : Stmt := topS 9
theorem sc_exact_root : FnScope ["n", "k", "r"] ["n", "k"] (defScope s_exact_root) := ⟨rfl, rfl, rfl, by decide +kernel, rfl, by decide +kernel, by decide +kernel⟩
theorem k_exact_root (T : Tx K mg) (D : Df K mg "exact_root" s_exact_root ["n", "k"]) (c_root_of : Kl P w K mg base 2 "root_of" (sp_root_of K)) (c_power : Kl P w K mg base 1 "power" (sp_power K)) : Kl P w K mg base 3 "exact_root" (sp_exact_root K) := by
  have nd := sc_exact_root.nd
  refine Kl.by_body D sc_exact_root (fun vs H Q E h => ?_) (fun f cdv A outer s H vs Q E hr h => ?_)
  · obtain ⟨_, _, _, rfl, _⟩ := h
    rfl
  · obtain ⟨n, r, m, rfl, hn, hm, r0, hr1, q⟩ := h
    have c_exact_root : Kl P w K mg base (0 + 1) "exact_root" (fun _ _ _ _ => False) := Kl.by_body D sc_exact_root (fun _ _ _ _ h => h.elim) (fun _ _ _ _ _ _ _ _ _ _ h => h.elim)
    have hu1 := hu_of hr
    refine ⟨_, (pss_cons (ps_if (pt_cmpR op_lt (pv 0) pe_int (nomark _)) (pss_cons (ps_if (pt_cmpR op_eq (pe_op op_mod (pv 1) pe_int) pe_int (nomark _)) (pss_one (ps_ret pe_non)) pss_nil)
      (pss_cons (ps_set (i := 2) nd rfl (by first | exact Or.inl rfl | exact Or.inr rfl) (pe_k c_exact_root  hr (by decide) (by rfl) (pa_cons (pe_un un_neg (pv 0)) (pa_cons (pv 1) pa_nil))))
      (pss_one (ps_ret (pe_ifExp (pt_cmpR op_isN (pv 2) pe_non (nomark _)) pe_non (pe_un un_neg (pv 2))))))) pss_nil)
      (pss_cons (ps_set (i := 2) nd rfl (by first | exact Or.inl rfl | exact Or.inr rfl) (pe_k c_root_of  hr (by decide) (by rfl) (pa_cons (pv 0) (pa_cons (pv 1) pa_nil))))
      (pss_one (ps_ret (pe_ifExp (pt_cmpR op_eq (pe_k c_power  hr (by decide) (by rfl) (pa_cons (pv 2) (pa_cons (pv 1) pa_nil))) (pv 0) (nomark _)) (pv 2) pe_non))))), ?_⟩
    have hn0 : ¬ n < 0 := by
      have : 0 ≤ r ^ (m + 1) := Int.pow_nonneg r0
      omega
    refine ⟨_, rfl, n, 0, rfl, rfl, _, rfl, ?_⟩
    refine iteN (by simpa using hn0) ?_
    refine ⟨_, rfl, _, rfl, n, m, rfl, by omega, hn, by omega, by omega, fun y y0 yB yle ymax => ?_⟩
    have hy : y = r := by
      have h1 := ymax r r0 (by omega)
      rcases (show r < y ∨ y ≤ r by omega) with z | z
      · exfalso
        have h2 := Nat.pow_lt_pow_left (show r.natAbs < y.natAbs by omega) (show m + 1 ≠ 0 by omega)
        rw [← Int.natAbs_pow, ← Int.natAbs_pow] at h2
        have h3 : 0 ≤ y ^ (m + 1) := Int.pow_nonneg y0
        have h4 : 0 ≤ r ^ (m + 1) := Int.pow_nonneg r0
        omega
      · omega
    subst hy
    refine ⟨_, rfl, _, rfl, y, (m : Int) + 1, rfl, by omega, by omega, yB, _, rfl, rfl, _, rfl, ?_⟩
    rw [dec_int]
    have e : ((m : Int) + 1).toNat = m + 1 := by omega
    rw [e]
    refine iteY (by simp [hr1]) ?_
    exact ⟨_, rfl, q⟩
end
end K13
set_option Elab.async false
set_option linter.all false
set_option maxRecDepth 100000
set_option maxHeartbeats 4000000
namespace K13
open PySem PySem.Spec PyProof.Rows L2 Gd QM
local macro_rules | `(tactic| walk_at "bd") => `(tactic| (repeat (first | assumption | apply B.add | apply B.sub | apply B.mul | apply B.neg | exact B.lit (n := 8) (by decide))))
local macro_rules | `(tactic| walk_at "bu") => `(tactic| (apply B.up; walk_at "bd"; decide))
local macro_rules | `(tactic| walk_at "bnd") => `(tactic| (apply B.mulW; walk_at "bd"; decide))
local macro_rules | `(tactic| walk_at "pw") => `(tactic| exact B.up (n := 64) (by assumption) (by decide))
/-- x //= y -/
def ipIc (c : Int → Int → Prop) (f : Int → Int → Int) : TIp := fun x y H Q => ∃ i j, x = .int i ∧ y = .int j ∧ c i j ∧ Q (.int (f i j)) H
theorem ip_fdivAny {X : Cx} : PIp X .FloorDiv (ipIc CDivAny fun i j => i.fdiv j) := by
  intro pins s σ H x y v u Q I r1 r2 h
  obtain ⟨i, j, e1, e2, c, q⟩ := h
  subst e1; subst e2
  obtain ⟨t, rfl⟩ := r1
  obtain ⟨t', rfl⟩ := r2
  exact ifloordiv_int c.1 ⟨.int _, H, I.tok _, ⟨_, rfl⟩, q⟩ (.inl (PyProof.noPylong_of_log2 c.2))
section
variable {P : Program} {w : World} {K : PySem.W.Frag} {mg : Str → Option Value} {base : Heap}
/-- the limits of a pair -/
def PB (a b : Int) : Prop := ¬ (a = 0 ∧ b = 0) ∧ a.natAbs < 10 ^ 16 ∧ b.natAbs < 10 ^ 24
theorem PB.a {a b : Int} (h : PB a b) : B 54 a := by
  unfold B
  exact Nat.lt_of_lt_of_le h.2.1 (by decide)
theorem PB.b {a b : Int} (h : PB a b) : B 80 b := by
  unfold B
  exact Nat.lt_of_lt_of_le h.2.2 (by decide)
theorem PB.up {a b A C : Int} (h : PB a b) (u : K08M.Up a b A C) : PB A C ∧ A.natAbs ≤ a.natAbs ∧ C.natAbs ≤ b.natAbs := by
  have n := u.nz h.1
  obtain ⟨p, hp, rfl, rfl⟩ := u
  have f : ∀ (k : Nat) (X : Int), X.natAbs ≤ ((p : Int) ^ k * X).natAbs := by
    intro k X
    rw [Int.natAbs_mul, Int.natAbs_pow, Int.natAbs_natCast]
    exact Nat.le_mul_of_pos_left _ (Nat.pow_pos hp)
  exact ⟨⟨n, Nat.lt_of_le_of_lt (f 4 A) h.2.1, Nat.lt_of_le_of_lt (f 6 C) h.2.2⟩, f 4 A, f 6 C⟩
theorem up_less {a b : Int} {p : Nat} (hp : 2 ≤ p) (h : PB a b) (c : K08M.Cut p a b) : (a.fdiv ((p : Int) ^ 4)).natAbs + (b.fdiv ((p : Int) ^ 6)).natAbs < a.natAbs + b.natAbs := by
  have u := K08M.up_div (by omega) c
  have f : ∀ (k : Nat) (x X : Int), 1 ≤ k → x = (p : Int) ^ k * X → X.natAbs + X.natAbs ≤ x.natAbs := by
    rintro k x X hk rfl
    rw [Int.natAbs_mul, Int.natAbs_pow, Int.natAbs_natCast]
    have h1 : 2 ^ 1 ≤ p ^ k := Nat.le_trans (Nat.pow_le_pow_left hp 1) (Nat.pow_le_pow_right (by omega) hk)
    have h2 := Nat.mul_le_mul_right X.natAbs h1
    omega
  have g : ∀ (x : Int) (k : Nat), p ^ k ∣ x.natAbs → x = (p : Int) ^ k * x.fdiv ((p : Int) ^ k) := by
    intro x k h
    have h1 : (p : Int) ^ k ∣ x := by
      rw [← Int.natCast_pow]
      exact Int.ofNat_dvd_left.mpr h
    rw [Int.fdiv_eq_ediv_of_dvd h1]
    exact (Int.mul_ediv_cancel' h1).symm
  have h4 := f 4 a _ (by decide) (g a 4 c.1)
  have h6 := f 6 b _ (by decide) (g b 6 c.2)
  have n := h.1
  omega
/-! ### divided_by -/
def sp_divided_by (K : PySem.W.Frag) : Sp := fun vs H Q _ => ∃ (a b : Int) (p : Nat), vs = [.int a, .int b, .int (p : Int)] ∧ 2 ≤ p ∧ p ≤ 10000 ∧ PB a b ∧ ∀ A C t, K08M.Up a b A C → ¬ K08M.Cut p A C → H t = none → Q (.ref t) (upd H t (.tup [.int A, .int C]))
abbrev s_divided_by : Stmt := topS 26
theorem sc_divided_by : FnScope ["a", "b", "u", "fourth", "sixth"] ["a", "b", "u"] (defScope s_divided_by) := ⟨rfl, rfl, rfl, by decide +kernel, rfl, by decide +kernel, by decide +kernel⟩
theorem k_divided_by (T : Tx K mg) (D : Df K mg "divided_by" s_divided_by ["a", "b", "u"])  : Kl P w K mg base 1 "divided_by" (sp_divided_by K) := by
  have nd := sc_divided_by.nd
  refine Kl.by_body D sc_divided_by (fun vs H Q E h => ?_) (fun f cdv A outer s H vs Q E hr h => ?_)
  · obtain ⟨_, _, _, rfl, _⟩ := h
    rfl
  · obtain ⟨a, b, p, rfl, h2, h4, hb, q⟩ := h
    have hu1 := hu_of hr
    refine ⟨_, (pss_cons (ps_set (i := 3) nd rfl (by first | exact Or.inl rfl | exact Or.inr rfl) (pe_op op_mulW (pe_op op_mulW (pe_op op_mulW (pv 2) (pv 2)) (pv 2)) (pv 2)))
      (pss_cons (ps_set (i := 4) nd rfl (by first | exact Or.inl rfl | exact Or.inr rfl) (pe_op op_mulW (pe_op op_mulW (pv 3) (pv 2)) (pv 2)))
      (pss_cons (ps_while PassesOwn.never (PW.pt (pw_and (pt_cmpR op_eq (pe_op op_mod (pv 0) (pv 3)) pe_int (nomark _)) (pw_and1 (pt_cmpR op_eq (pe_op op_mod (pv 1) (pv 4)) pe_int (nomark _))))) (pss_cons (ps_aug (i := 0) nd rfl (by first | exact Or.inl rfl | exact Or.inr rfl) (pv 3) ip_fdivAny)
      (pss_one (ps_aug (i := 1) nd rfl (by first | exact Or.inl rfl | exact Or.inr rfl) (pv 4) ip_fdivAny))))
      (pss_one (ps_ret (pe_tup (pa_cons (pv 0) (pa_cons (pv 1) pa_nil)))))))), ?_⟩
    have bp : B 14 (p : Int) := by
      unfold B
      omega
    have p4 : (p : Int) * p * p * p = (p : Int) ^ 4 := by
      rw [Int.pow_succ, Int.pow_succ, Int.pow_succ, Int.pow_succ, Int.pow_zero, Int.one_mul]
    have p6 : (p : Int) ^ 4 * p * p = (p : Int) ^ 6 := by
      rw [Int.pow_succ (p : Int) 5, Int.pow_succ (p : Int) 4]
    have b4 : B 57 ((p : Int) ^ 4) := (bp.pow 4).up (by decide)
    have b6 : B 85 ((p : Int) ^ 6) := (bp.pow 6).up (by decide)
    have g4 : 0 < (p : Int) ^ 4 := Int.pow_pos (by omega)
    have g6 : 0 < (p : Int) ^ 6 := Int.pow_pos (by omega)
    refine ⟨_, rfl, _, rfl, _, _, rfl, rfl, (by walk_at "bnd"), _, rfl, _, _, rfl, rfl, (by walk_at "bnd"), _, rfl, _, _, rfl, rfl, (by walk_at "bnd"), ?_⟩
    refine sigN [some (.int a), some (.int b), some (.int (p : Int)), some (.int ((p : Int) ^ 4)), none] (by rw [← p4]; rfl) ?_
    refine ⟨_, rfl, _, rfl, _, _, rfl, rfl, (by walk_at "bnd"), _, rfl, _, _, rfl, rfl, (by walk_at "bnd"), ?_⟩
    refine sigN [some (.int a), some (.int b), some (.int (p : Int)), some (.int ((p : Int) ^ 4)), some (.int ((p : Int) ^ 6))] (by rw [← p6]; rfl) ?_
    refine while_by (fun σ H2 => ∃ x y : Int, σ = [some (.int x), some (.int y), some (.int (p : Int)), some (.int ((p : Int) ^ 4)), some (.int ((p : Int) ^ 6))] ∧ H2 = H ∧ K08M.Up a b x y)
      (fun σ _ => match σ with | [some (.int x), some (.int y), _, _, _] => x.natAbs + y.natAbs | _ => 0) ⟨a, b, rfl, rfl, K08M.Up.refl a b⟩ ?_ ?_
    · rintro σ H2 ⟨x, y, rfl, rfl, u⟩
      obtain ⟨hx, -, -⟩ := hb.up u
      have ec : K08M.Cut p x y ↔ x % (p : Int) ^ 4 = 0 ∧ y % (p : Int) ^ 6 = 0 := by
        rw [K08M.cut_iff, Int.fmod_eq_emod_of_nonneg x (by omega), Int.fmod_eq_emod_of_nonneg y (by omega)]
      have no : ¬ K08M.Cut p x y → ∀ t, H2 t = none → Q (.ref t) (upd H2 t (.tup [.int x, .int y])) := fun n t nt => q x y t u n nt
      refine ⟨_, rfl, _, rfl, x, _, rfl, rfl, g4, rfl, _, rfl, ?_⟩
      rw [dec_int]
      by_cases h0 : x % (p : Int) ^ 4 = 0
      · refine iteY (by simp [h0]) ?_
        refine ⟨_, rfl, _, rfl, y, _, rfl, rfl, g6, rfl, _, rfl, ?_⟩
        rw [dec_int]
        by_cases h1 : y % (p : Int) ^ 6 = 0
        · refine iteY (by simp [h1]) ?_
          have c : K08M.Cut p x y := ec.mpr ⟨h0, h1⟩
          refine ⟨_, rfl, _, rfl, x, _, rfl, rfl, div_any (by omega) b4 (by decide), ?_⟩
          refine ⟨_, rfl, _, rfl, y, _, rfl, rfl, div_any (by omega) b6 (by decide), ?_⟩
          exact ⟨⟨_, _, rfl, rfl, u.trans (K08M.up_div (by omega) c)⟩, up_less h2 hx c⟩
        · refine iteN (by simp [h1]) ?_
          refine ⟨_, rfl, _, rfl, (by show 2 ≤ sizeLine; decide), fun t nt => ?_⟩
          exact no (fun z => h1 (ec.mp z).2) t nt
      · refine iteN (by simp [h0]) ?_
        refine iteN (by simp) ?_
        refine ⟨_, rfl, _, rfl, (by show 2 ≤ sizeLine; decide), fun t nt => ?_⟩
        exact no (fun z => h0 (ec.mp z).1) t nt
    · rintro σ H2 Q1 Q2 i ⟨v1, e1, v2, e2, x, y, e3, e4, e5, e6, c, e7, z⟩
      refine ⟨v1, e1, v2, e2, x, y, e3, e4, e5, e6, c, e7, ?_⟩
      by_cases hc : c = true
      · refine iteY hc ?_
        obtain ⟨w1, d1, w2, d2, x', y', d3, d4, d5, d6, c', d7, z⟩ := (if_pos hc).mp z
        exact ⟨w1, d1, w2, d2, x', y', d3, d4, d5, d6, c', d7, i _ _ z⟩
      · exact iteN hc (i _ _ ((if_neg hc).mp z))
end
end K13
set_option linter.all false
namespace K13
open PySem PySem.Spec PyProof.Rows L2 Gd QM
/-! what is read asks no more of what follows than it gives -/
def MoE (t : TE) : Prop := ∀ σ H (Q Q' : VK), (∀ v H1, Q v H1 → Q' v H1) → t σ H Q → t σ H Q'
def MoA (t : TA) : Prop := ∀ σ H (Q Q' : List V → Hp → Prop), (∀ v H1, Q v H1 → Q' v H1) → t σ H Q → t σ H Q'
def MoT (t : TT) : Prop := ∀ σ H (Q Q' : Bool → Hp → Prop), (∀ b H1, Q b H1 → Q' b H1) → t σ H Q → t σ H Q'
def MoR (r : R2) : Prop := ∀ x y H (Q Q' : VK), (∀ v H1, Q v H1 → Q' v H1) → r x y H Q → r x y H Q'
def MoB (r : List V → Hp → VK → Prop) : Prop := ∀ x H (Q Q' : VK), (∀ v H1, Q v H1 → Q' v H1) → r x H Q → r x H Q'
theorem MoE.var {i : Nat} : MoE (tVar i) := fun _ _ _ _ k ⟨v, e, z⟩ => ⟨v, e, k _ _ z⟩
theorem MoE.c {v : V} : MoE (tC v) := fun _ _ _ _ k z => k _ _ z
theorem MoE.op {r : R2} {t u : TE} (h : MoR r) (h1 : MoE t) (h2 : MoE u) : MoE (tOp r t u) := fun _ _ _ _ k z => h1 _ _ _ _ (fun _ _ y => h2 _ _ _ _ (fun _ _ x => h _ _ _ _ _ k x) y) z
theorem MoE.cb {r : List V → Hp → VK → Prop} {t : TA} (h : MoB r) (h1 : MoA t) : MoE (tCB r t) := fun _ _ _ _ k z => h1 _ _ _ _ (fun _ _ y => h _ _ _ _ k y) z
theorem MoA.nil : MoA tNil := fun _ _ _ _ k z => k _ _ z
theorem MoA.cons {t : TE} {u : TA} (h1 : MoE t) (h2 : MoA u) : MoA (tCons t u) := fun _ _ _ _ k z => h1 _ _ _ _ (fun _ _ y => h2 _ _ _ _ (fun _ _ x => k _ _ x) y) z
theorem MoR.i {C : Int → Int → Prop} {g : Int → Int → V} : MoR (rI C g) := fun _ _ _ _ _ k ⟨i, j, e1, e2, c, z⟩ => ⟨i, j, e1, e2, c, k _ _ z⟩
theorem MoR.i0 {g : Int → Int → V} : MoR (rI0 g) := fun _ _ _ _ _ k ⟨i, j, e1, e2, z⟩ => ⟨i, j, e1, e2, k _ _ z⟩
theorem MoR.eq : MoR rEq := fun _ _ _ _ _ k ⟨e, z⟩ => ⟨e, k _ _ z⟩
theorem MoR.ne : MoR rNe := fun _ _ _ _ _ k ⟨e, z⟩ => ⟨e, k _ _ z⟩
theorem MoB.i {g : Int → V} : MoB (fun xs H Q => ∃ i, xs = [V.int i] ∧ Q (g i) H) := fun _ _ _ _ k ⟨i, e, z⟩ => ⟨i, e, k _ _ z⟩
theorem MoT.test {t : TE} (h : MoE t) : MoT (tTest t) := fun _ _ _ _ k z => h _ _ _ _ (fun _ _ ⟨c, e, y⟩ => ⟨c, e, k _ _ y⟩) z
theorem MoT.and {t u : TT} (h : MoT t) (h' : MoT u) : MoT (tAnd t u) := fun σ H Q Q' i z => h _ _ _ _ (fun b H1 y => by
  by_cases hb : b = true
  · rw [if_pos hb] at y ⊢
    exact h' _ _ _ _ i y
  · rw [if_neg hb] at y ⊢
    exact i _ _ y) z
theorem MoT.or {t u : TT} (h : MoT t) (h' : MoT u) : MoT (tOr t u) := fun σ H Q Q' i z => h _ _ _ _ (fun b H1 y => by
  by_cases hb : b = true
  · rw [if_pos hb] at y ⊢
    exact i _ _ y
  · rw [if_neg hb] at y ⊢
    exact h' _ _ _ _ i y) z
theorem MoE.tup {t : TA} (h : MoA t) : MoE (tTup t) := fun _ _ _ _ k z => h _ _ _ _ (fun _ _ ⟨l, y⟩ => ⟨l, fun p n => k _ _ (y p n)⟩) z
theorem MoE.ifx {c : TT} {t u : TE} (h : MoT c) (h1 : MoE t) (h2 : MoE u) : MoE (tIf c t u) := fun _ _ _ _ k z => h _ _ _ _ (fun b _ y => by
  by_cases hb : b = true
  · rw [if_pos hb] at y ⊢
    exact h1 _ _ _ _ k y
  · rw [if_neg hb] at y ⊢
    exact h2 _ _ _ _ k y) z
theorem MoB.i2 {g : Int → Int → V} : MoB (fun xs H Q => ∃ i j, xs = [V.int i, V.int j] ∧ Q (g i j) H) := fun _ _ _ _ k ⟨i, j, e, z⟩ => ⟨i, j, e, k _ _ z⟩
theorem MoB.gcd : MoB rGcd := fun _ _ _ _ k ⟨i, j, e, z⟩ => ⟨i, j, e, k _ _ z⟩
local macro_rules | `(tactic| walk_at "mo") => `(tactic| (repeat (first | with_reducible apply MoT.or | with_reducible apply MoT.and | with_reducible apply MoT.test | with_reducible apply MoE.op | with_reducible apply MoE.cb | with_reducible exact MoE.var | with_reducible exact MoE.c | with_reducible exact MoA.nil | with_reducible apply MoA.cons | exact MoR.eq | exact MoR.ne | exact MoR.i | exact MoR.i0 | exact MoB.i | exact MoB.i2 (g := fun i j => V.int (if j < i then j else i)) | exact MoB.i2 | exact MoB.gcd | with_reducible apply MoE.tup | with_reducible apply MoE.ifx)))
end K13
set_option Elab.async false
set_option linter.all false
set_option maxRecDepth 100000
set_option maxHeartbeats 4000000
namespace K13
open PySem PySem.Spec PyProof.Rows L2 Gd QM
local macro_rules | `(tactic| walk_at "mo") => `(tactic| (repeat (first | with_reducible apply MoT.or | with_reducible apply MoT.and | with_reducible apply MoT.test | with_reducible apply MoE.op | with_reducible apply MoE.cb | with_reducible exact MoE.var | with_reducible exact MoE.c | with_reducible exact MoA.nil | with_reducible apply MoA.cons | exact MoR.eq | exact MoR.ne | exact MoR.i | exact MoR.i0 | exact MoB.i | exact MoB.i2 (g := fun i j => V.int (if j < i then j else i)) | exact MoB.i2 | exact MoB.gcd | with_reducible apply MoE.tup | with_reducible apply MoE.ifx)))
local macro_rules | `(tactic| walk_at "bd") => `(tactic| (repeat (first | assumption | apply B.add | apply B.sub | apply B.mul | apply B.neg | exact B.lit (n := 8) (by decide))))
local macro_rules | `(tactic| walk_at "bu") => `(tactic| (apply B.up; walk_at "bd"; decide))
local macro_rules | `(tactic| walk_at "bnd") => `(tactic| (apply B.mulW; walk_at "bd"; decide))
local macro_rules | `(tactic| walk_at "pw") => `(tactic| exact B.up (n := 64) (by assumption) (by decide))
section
variable {P : Program} {w : World} {K : PySem.W.Frag} {mg : Str → Option Value} {base : Heap}
theorem cpow {p : Nat} (h : p ≤ 10001) {k : Int} (k0 : 0 ≤ k) (k1 : k ≤ 1000000) : CPow (p : Int) k := ⟨k0, k1, by
  rw [Int.natAbs_natCast]
  exact Nat.lt_of_le_of_lt h (by decide)⟩
/-! ### the law's short form -/
def sp_law_short (K : PySem.W.Frag) : Sp := fun vs H Q _ => ∃ (a b : Int), vs = [.int a, .int b] ∧ PB a b ∧ ∀ A C t, K08M.Up a b A C → K08M.Sh A C → H t = none → Q (.ref t) (upd H t (.tup [.int A, .int C]))
end
end K13
set_option Elab.async false
set_option linter.all false
set_option maxRecDepth 100000
set_option maxHeartbeats 4000000
namespace K13
open PySem PySem.Spec PyProof.Rows L2 Gd QM
local macro_rules | `(tactic| walk_at "mo") => `(tactic| (repeat (first | with_reducible apply MoT.or | with_reducible apply MoT.and | with_reducible apply MoT.test | with_reducible apply MoE.op | with_reducible apply MoE.cb | with_reducible exact MoE.var | with_reducible exact MoE.c | with_reducible exact MoA.nil | with_reducible apply MoA.cons | exact MoR.eq | exact MoR.ne | exact MoR.i | exact MoR.i0 | exact MoB.i | exact MoB.i2 (g := fun i j => V.int (if j < i then j else i)) | exact MoB.i2 | exact MoB.gcd | with_reducible apply MoE.tup | with_reducible apply MoE.ifx)))
local macro_rules | `(tactic| walk_at "bd") => `(tactic| (repeat (first | assumption | apply B.add | apply B.sub | apply B.mul | apply B.neg | exact B.lit (n := 8) (by decide))))
local macro_rules | `(tactic| walk_at "bu") => `(tactic| (apply B.up; walk_at "bd"; decide))
local macro_rules | `(tactic| walk_at "bnd") => `(tactic| (apply B.mulW; walk_at "bd"; decide))
local macro_rules | `(tactic| walk_at "pw") => `(tactic| exact B.up (n := 64) (by assumption) (by decide))
section
variable {P : Program} {w : World} {K : PySem.W.Frag} {mg : Str → Option Value} {base : Heap}
/-! ### without_powers -/
def sp_without_great_powers (K : PySem.W.Frag) : Sp := fun _ _ _ _ => False
def sp_without_powers (K : PySem.W.Frag) : Sp := fun vs H Q _ => ∃ (a b : Int), vs = [.int a, .int b] ∧ PB a b ∧ ∀ A C t H', K08M.Up a b A C → K08M.Sh A C → Same H H' → H t = none → H' t = some (.tup [.int A, .int C]) → Q (.ref t) H'
abbrev s_without_powers : Stmt := topS 27
theorem sc_without_powers : FnScope ["a", "b", "rest", "least", "p", "most"] ["a", "b"] (defScope s_without_powers) := ⟨rfl, rfl, rfl, by decide +kernel, rfl, by decide +kernel, by decide +kernel⟩
theorem k_without_powers (T : Tx K mg) (D : Df K mg "without_powers" s_without_powers ["a", "b"]) (c_root_of : Kl P w K mg base 2 "root_of" (sp_root_of K)) (c_without_great_powers : Kl P w K mg base 6 "without_great_powers" (sp_without_great_powers K)) (c_divided_by : Kl P w K mg base 1 "divided_by" (sp_divided_by K)) : Kl P w K mg base 7 "without_powers" (sp_without_powers K) := by
  have nd := sc_without_powers.nd
  refine Kl.by_body D sc_without_powers (fun vs H Q E h => ?_) (fun f cdv A outer s H vs Q E hr h => ?_)
  · obtain ⟨_, _, rfl, _⟩ := h
    rfl
  · obtain ⟨a, b, rfl, hb, q⟩ := h
    have hu1 := hu_of hr
    refine ⟨_, (pss_cons (ps_asg (pe_ifExp (pt_cmpR op_eq (pv 0) pe_int (nomark _)) (pe_tup (pa_cons (pe_callB call_abs (by rfl) T.abs (by decide +kernel) (pa_cons (pv 1) pa_nil)) (pa_cons pe_int pa_nil))) (pe_tup (pa_cons (pe_callBfun cr_gcd (by rfl) T.gcd (pa_cons (pv 0) (pa_cons (pv 1) pa_nil))) (pa_cons pe_int pa_nil)))) (pg_tup rfl (pgs_cons (pg_name (i := 2) nd rfl (by first | exact Or.inl rfl | exact Or.inr rfl)) (pgs_cons (pg_name (i := 3) nd rfl (by first | exact Or.inl rfl | exact Or.inr rfl)) pgs_nil))))
      (pss_cons (ps_set (i := 4) nd rfl (by first | exact Or.inl rfl | exact Or.inr rfl) pe_int)
      (pss_cons (ps_set (i := 5) nd rfl (by first | exact Or.inl rfl | exact Or.inr rfl) (pe_k c_root_of  hr (by decide) (by rfl) (pa_cons (pv 2) (pa_cons (pv 3) pa_nil))))
      (pss_cons (ps_while PassesOwn.never (pt_cmpR op_le (pv 4) (pe_callB (call_min2 rfl) (by rfl) T.min (by decide +kernel) (pa_cons (pv 5) (pa_cons (pe_kon (by rfl) T.c_TRIED_shortening) pa_nil))) (nomark _)) (pss_cons (ps_if (pt_cmpR op_eq (pe_op op_mod (pv 2) (pv 4)) pe_int (nomark _)) (pss_cons (ps_asg (pe_k c_divided_by  hr (by decide) (by rfl) (pa_cons (pv 0) (pa_cons (pv 1) (pa_cons (pv 4) pa_nil)))) (pg_tup rfl (pgs_cons (pg_name (i := 0) nd rfl (by first | exact Or.inl rfl | exact Or.inr rfl)) (pgs_cons (pg_name (i := 1) nd rfl (by first | exact Or.inl rfl | exact Or.inr rfl)) pgs_nil))))
      (pss_cons (ps_while PassesOwn.never (pt_cmpR op_eq (pe_op op_mod (pv 2) (pv 4)) pe_int (nomark _)) (pss_one (ps_aug (i := 2) nd rfl (by first | exact Or.inl rfl | exact Or.inr rfl) (pv 4) ip_fdivAny)))
      (pss_one (ps_set (i := 5) nd rfl (by first | exact Or.inl rfl | exact Or.inr rfl) (pe_k c_root_of  hr (by decide) (by rfl) (pa_cons (pv 2) (pa_cons (pv 3) pa_nil))))))) pss_nil)
      (pss_one (ps_aug (i := 4) nd rfl (by first | exact Or.inl rfl | exact Or.inr rfl) pe_int ip_add))))
      (pss_one (ps_ret (pe_ifExp (pt_cmpR op_gt (pv 5) (pe_kon (by rfl) T.c_TRIED_shortening) (nomark _)) (pe_k c_without_great_powers  hr (by decide) (by rfl) (pa_cons (pv 0) (pa_cons (pv 1) (pa_cons (pv 2) (pa_cons (pv 3) pa_nil))))) (pe_tup (pa_cons (pv 0) (pa_cons (pv 1) pa_nil)))))))))), ?_⟩
    have hA := hb.a
    have hB := hb.b
    refine MoE.ifx ?m1 ?m2 ?m3 _ _ (fun v H1 => ∃ (t : Addr) (rest least : Nat), v = .ref t ∧ H t = none ∧ H1 = upd H t (.tup [.int (rest : Int), .int (least : Int)]) ∧ 0 < rest ∧ rest < 10000 ^ least ∧ (least = 4 ∨ least = 6) ∧ ∀ d, K08M.Cut d a b → d ^ least ∣ rest) _ ?B ?R
    case m1 => walk_at "mo"
    case m2 => walk_at "mo"
    case m3 => walk_at "mo"
    case R =>
      refine ⟨_, rfl, rfl, _, rfl, ?_⟩
      rw [dec_int]
      by_cases h0 : a = 0
      · refine iteY (by simp [h0]) ?_
        refine ⟨_, rfl, b, rfl, (by show 2 ≤ sizeLine; decide), fun t nt => ?_⟩
        refine ⟨t, b.natAbs, 6, rfl, nt, ?_, ?_, ?_, Or.inr rfl, fun d c => K08M.start_zero a b d c⟩
        · rw [abs_eq]
          rfl
        · have := hb.1
          omega
        · exact Nat.lt_of_lt_of_le hb.2.2 (by decide)
      · refine iteN (by simp [h0]) ?_
        refine ⟨_, rfl, _, rfl, a, b, rfl, (by show 2 ≤ sizeLine; decide), fun t nt => ?_⟩
        refine ⟨t, Nat.gcd a.natAbs b.natAbs, 4, rfl, nt, rfl, Nat.gcd_pos_of_pos_left _ (by omega), ?_, Or.inl rfl, fun d c => K08M.start_gcd a b d c⟩
        have h1 : Nat.gcd a.natAbs b.natAbs ≤ a.natAbs := Nat.gcd_le_left _ (by omega)
        exact Nat.lt_of_le_of_lt h1 (Nat.lt_of_lt_of_le hb.2.1 (by decide))
    case B =>
      rintro v H1 ⟨t, rest, least, rfl, nt, rfl, r0, rL, hl, hc⟩
      have sm : Same H (upd H t (.tup [.int (rest : Int), .int (least : Int)])) := Same.new nt
      have gt : (upd H t (.tup [.int (rest : Int), .int (least : Int)])) t = some (.tup [.int (rest : Int), .int (least : Int)]) := upd_same
      generalize upd H t (.tup [.int (rest : Int), .int (least : Int)]) = H1 at sm gt ⊢
      refine ⟨t, _, rfl, tup_of gt, rfl, _, _, rfl, _, _, rfl, rfl, ?_⟩
      obtain ⟨m, rfl, hm1, hm5⟩ : ∃ m, least = m + 1 ∧ 1 ≤ m ∧ m ≤ 5 := ⟨least - 1, by omega, by omega, by omega⟩
      have lim : 10000 ^ (m + 1) ≤ 10 ^ 24 := by
        rcases hl with z | z
        · rw [z]
          decide
        · rw [z]
          decide
      have small : ∀ r : Nat, r < 10000 ^ (m + 1) → B 80 (r : Int) := fun r h => by
        unfold B
        rw [Int.natAbs_natCast]
        exact Nat.lt_of_lt_of_le (Nat.lt_of_lt_of_le h lim) (by decide)
      have root : ∀ (r : Nat) (s : Int), r < 10000 ^ (m + 1) → 0 ≤ s → s ^ (m + 1) ≤ (r : Int) → (∀ t : Int, 0 ≤ t → t ^ (m + 1) ≤ (r : Int) → t ≤ s) → ∃ most : Nat, s = (most : Int) ∧ most < 10000 ∧ r < (most + 1) ^ (m + 1) := by
        intro r s hr2 s0 sle smax
        obtain ⟨n, rfl⟩ : ∃ n : Nat, s = (n : Int) := ⟨s.toNat, by omega⟩
        refine ⟨n, rfl, ?_, ?_⟩
        · rcases Nat.lt_or_ge n 10000 with z | z
          · exact z
          · exfalso
            have h1 : n ^ (m + 1) ≤ r := by
              rw [← Int.natCast_pow] at sle
              exact Int.ofNat_le.mp sle
            have h2 : 10000 ^ (m + 1) ≤ n ^ (m + 1) := Nat.pow_le_pow_left z _
            omega
        · rcases Nat.lt_or_ge r ((n + 1) ^ (m + 1)) with z | z
          · exact z
          · exfalso
            have h1 := smax ((n + 1 : Nat) : Int) (by omega) (by
              rw [← Int.natCast_pow]
              exact Int.ofNat_le.mpr z)
            omega
      first | refine sigN [some (.int (a)), some (.int (b)), some (.int ((rest : Int))), some (.int (((m + 1 : Nat) : Int))), none, none] (by rfl) ?_ | refine sig [some (.int (a)), some (.int (b)), some (.int ((rest : Int))), some (.int (((m + 1 : Nat) : Int))), none, none] (by rfl) ?_
      refine ⟨_, rfl, _, rfl, (rest : Int), m, rfl, by omega, (small rest rL).up (by decide), hm1, hm5, fun sq s0 _ sle smax => ?_⟩
      obtain ⟨most0, rfl, hm0, hr0⟩ := root rest sq rL s0 sle smax
      refine while_by (fun σ H2 => ∃ (x y : Int) (r p most : Nat), σ = [some (.int x), some (.int y), some (.int (r : Int)), some (.int ((m + 1 : Nat) : Int)), some (.int (p : Int)), some (.int (most : Int))] ∧ Same H H2 ∧ K08M.Up a b x y ∧ 0 < r ∧ r < 10000 ^ (m + 1) ∧ 2 ≤ p ∧ p ≤ 10001 ∧ most < 10000 ∧ r < (most + 1) ^ (m + 1) ∧ (∀ d, K08M.Irr d → d < p → ¬ K08M.Cut d x y) ∧ ∀ d, K08M.Irr d → p ≤ d → K08M.Cut d x y → d ^ (m + 1) ∣ r)
        (fun σ _ => match σ with | [_, _, _, _, some (.int p), _] => 10001 - p.toNat | _ => 0) ⟨a, b, rest, 2, most0, rfl, sm, K08M.Up.refl a b, r0, rL, by decide, by decide, hm0, hr0, fun d hd lt => absurd hd.1 (by omega), fun d _ _ c => hc d c⟩ ?_ ?_
      · rintro σ H2 ⟨x, y, r, p, most, rfl, s2, u, hr0, hrL, h2, h4, hmo, hrm, hs, hg⟩
        have hx := (hb.up u).1
        have bp : B 14 (p : Int) := by
          unfold B
          omega
        refine ⟨_, rfl, _, rfl, _, _, rfl, _, _, rfl, rfl, _, rfl, ?_⟩
        have nn : ∀ r : Nat, ((r : Int) % (p : Int) == 0) = true ↔ p ∣ r := fun r => by
          rw [beq_iff_eq, ← Int.natCast_emod]
          exact ⟨fun z => Nat.dvd_of_mod_eq_zero (by omega), fun z => by rw [Nat.mod_eq_zero_of_dvd z]; rfl⟩
        by_cases hle : p ≤ most
        · refine iteY (by rw [decide_eq_true_iff]; split <;> omega) ?_
          refine ⟨_, rfl, _, rfl, _, _, rfl, rfl, (by omega), rfl, _, rfl, ?_⟩
          rw [dec_int]
          by_cases hd : p ∣ r
          · refine iteY ((nn r).mpr hd) ?_
            refine ⟨_, rfl, _, rfl, _, rfl, x, y, p, rfl, h2, by omega, hx, fun A C t2 v nc nt2 => ?_⟩
            refine ⟨t2, _, rfl, tup_of upd_same, rfl, _, _, rfl, _, _, rfl, rfl, ?_⟩
            have s3 := Same.put s2 (s2.free nt2) (o := .tup [.int A, .int C])
            generalize upd H2 t2 (.tup [.int A, .int C]) = H3 at s3 ⊢
            first | refine sigN [some (.int (A)), some (.int (C)), some (.int ((r : Int))), some (.int (((m + 1 : Nat) : Int))), some (.int ((p : Int))), some (.int ((most : Int)))] (by rfl) ?_ | refine sig [some (.int (A)), some (.int (C)), some (.int ((r : Int))), some (.int (((m + 1 : Nat) : Int))), some (.int ((p : Int))), some (.int ((most : Int)))] (by rfl) ?_
            refine while_by (fun σ H4 => ∃ k r' : Nat, σ = [some (.int A), some (.int C), some (.int (r' : Int)), some (.int ((m + 1 : Nat) : Int)), some (.int (p : Int)), some (.int (most : Int))] ∧ H4 = H3 ∧ r = p ^ k * r' ∧ 0 < r')
              (fun σ _ => match σ with | [_, _, some (.int r'), _, _, _] => r'.toNat | _ => 0) ⟨0, r, rfl, rfl, by rw [Nat.pow_zero, Nat.one_mul], hr0⟩ ?_ ?_
            · rintro σ H4 ⟨k, r', rfl, rfl, er, r0'⟩
              have rle : r' ≤ r := by
                rw [er]
                exact Nat.le_mul_of_pos_left _ (Nat.pow_pos (by omega))
              refine ⟨_, rfl, _, rfl, _, _, rfl, rfl, (by omega), rfl, _, rfl, ?_⟩
              rw [dec_int]
              by_cases hd' : p ∣ r'
              · refine iteY ((nn r').mpr hd') ?_
                obtain ⟨r2, rfl⟩ := hd'
                have e2 : ((p * r2 : Nat) : Int).fdiv (p : Int) = (r2 : Int) := by
                  rw [Int.natCast_mul, Int.fdiv_eq_ediv_of_nonneg _ (by omega)]
                  exact Int.mul_ediv_cancel_left _ (by omega)
                have r20 : 0 < r2 := Nat.pos_of_mul_pos_left r0'
                refine ⟨_, rfl, _, rfl, _, _, rfl, rfl, div_any (by omega) bp (by decide), ?_⟩
                refine ⟨⟨k + 1, r2, ?_, rfl, ?_, r20⟩, ?_⟩
                · rw [← e2]
                  rfl
                · rw [er, Nat.pow_succ, Nat.mul_assoc]
                · show (((p * r2 : Nat) : Int).fdiv (p : Int)).toNat < ((p * r2 : Nat) : Int).toNat
                  rw [e2]
                  have : 2 * r2 ≤ p * r2 := Nat.mul_le_mul_right _ h2
                  omega
              · refine iteN (fun z => hd' ((nn r').mp z)) ?_
                have rL' : r' < 10000 ^ (m + 1) := by omega
                refine ⟨_, rfl, _, rfl, (r' : Int), m, rfl, by omega, (small r' rL').up (by decide), hm1, hm5, fun sq s0 _ sle smax => ?_⟩
                obtain ⟨most1, rfl, hm1', hr1'⟩ := root r' sq rL' s0 sle smax
                obtain ⟨n1, n2⟩ := K08M.turn_yes (k := k) (r := r') (least := m + 1) (by omega) v nc hs (by rw [← er]; exact hg)
                refine ⟨_, rfl, _, _, rfl, rfl, ?_⟩
                refine ⟨⟨A, C, r', p + 1, most1, rfl, s3, u.trans v, r0', rL', by omega, by omega, hm1', hr1', n1, n2⟩, ?_⟩
                show 10001 - ((p : Int) + 1).toNat < 10001 - (p : Int).toNat
                omega
            · intro σ H Q Q' i z
              refine (?_ : MoT _) σ H Q Q' i z
              walk_at "mo"
          · refine iteN (fun z => hd ((nn r).mp z)) ?_
            obtain ⟨n1, n2⟩ := K08M.turn_no (by omega : 0 < m + 1) hs hg hd
            refine ⟨_, rfl, _, _, rfl, rfl, ?_⟩
            refine ⟨⟨x, y, r, p + 1, most, rfl, s2, u, hr0, hrL, by omega, by omega, hmo, hrm, n1, n2⟩, ?_⟩
            show 10001 - ((p : Int) + 1).toNat < 10001 - (p : Int).toNat
            omega
        · refine iteN (by rw [decide_eq_true_iff]; split <;> omega) ?_
          refine ⟨_, rfl, _, _, rfl, rfl, _, rfl, ?_⟩
          refine iteN (by rw [decide_eq_true_iff]; omega) ?_
          refine ⟨_, rfl, _, rfl, (by show 2 ≤ sizeLine; decide), fun t2 nt2 => ?_⟩
          exact q x y t2 _ u (K08M.sh_prog hr0 hs hg hrm (by omega)) (Same.put s2 (s2.free nt2)) (s2.free nt2) upd_same
      · intro σ H Q Q' i z
        refine (?_ : MoT _) σ H Q Q' i z
        walk_at "mo"
end
end K13
set_option linter.all false
set_option maxRecDepth 100000
/-! the greatest scale that a pair lets, out of the greatest power in it. Plain Lean -/
namespace K13
open PySem PySem.Spec PyProof.Rows L2 Gd QM K08M
/-- each number is a power of p times one that p does not divide -/
theorem val_ex {p : Nat} (hp : 2 ≤ p) : ∀ (k : Nat) {n : Nat}, n ≤ k → 0 < n → ∃ a m, n = p ^ a * m ∧ ¬ p ∣ m ∧ 0 < m
  | 0, n, h, h0 => by omega
  | k + 1, n, h, h0 => by
    by_cases d : p ∣ n
    · obtain ⟨m, rfl⟩ := d
      have m0 : 0 < m := Nat.pos_of_mul_pos_left h0
      have hm : m ≤ k := by
        have := Nat.mul_le_mul_right m hp
        omega
      obtain ⟨a, x, e, hx, x0⟩ := val_ex hp k hm m0
      exact ⟨a + 1, x, by rw [e, Nat.pow_succ]; ac_rfl, hx, x0⟩
    · exact ⟨0, n, by rw [Nat.pow_zero, Nat.one_mul], d, h0⟩
theorem val_is {p n : Nat} (hp : 2 ≤ p) (h0 : 0 < n) : ∃ a m, n = p ^ a * m ∧ ¬ p ∣ m ∧ 0 < m := val_ex hp n (Nat.le_refl n) h0
theorem cop2 {m : Nat} (h : ¬ 2 ∣ m) : Nat.Coprime m 2 := by
  have h1 := Nat.gcd_dvd_left m 2
  have h2 := Nat.le_of_dvd (by decide) (Nat.gcd_dvd_right m 2)
  have h0 := Nat.gcd_pos_of_pos_right m (show 0 < 2 by decide)
  show Nat.gcd m 2 = 1
  rcases (show Nat.gcd m 2 = 1 ∨ Nat.gcd m 2 = 2 by omega) with e | e
  · exact e
  · rw [e] at h1
    exact absurd h1 h
theorem cop3 {m : Nat} (h : ¬ 3 ∣ m) : Nat.Coprime m 3 := by
  have h1 := Nat.gcd_dvd_left m 3
  have h3 := Nat.gcd_dvd_right m 3
  have h2 := Nat.le_of_dvd (by decide) h3
  have h0 := Nat.gcd_pos_of_pos_right m (show 0 < 3 by decide)
  show Nat.gcd m 3 = 1
  rcases (show Nat.gcd m 3 = 1 ∨ Nat.gcd m 3 = 2 ∨ Nat.gcd m 3 = 3 by omega) with e | e | e
  · exact e
  · rw [e] at h3
    exact absurd h3 (by decide)
  · rw [e] at h1
    exact absurd h1 h
/-- what divides 2 ^ a 3 ^ b -/
theorem dvd23 {a b t : Nat} (h : t ∣ 2 ^ a * 3 ^ b) (t0 : 0 < t) : ∃ i j, t = 2 ^ i * 3 ^ j ∧ i ≤ a ∧ j ≤ b := by
  obtain ⟨i, x, e1, hx, x0⟩ := val_is (p := 2) (by decide) t0
  obtain ⟨j, y, e2, hy, y0⟩ := val_is (p := 3) (by decide) x0
  have hy2 : ¬ 2 ∣ y := fun d => hx (by rw [e2]; exact Nat.dvd_trans d (Nat.dvd_mul_left y (3 ^ j)))
  have d1 : y ∣ 2 ^ a * 3 ^ b := Nat.dvd_trans (by rw [e1, e2]; exact ⟨2 ^ i * 3 ^ j, by ac_rfl⟩) h
  have d2 : y ∣ 3 ^ b := (Nat.Coprime.pow_right a (cop2 hy2)).dvd_of_dvd_mul_left d1
  have d3 : y ∣ 1 := (Nat.Coprime.pow_right b (cop3 hy)).dvd_of_dvd_mul_left (by rw [Nat.mul_one]; exact d2)
  have ey : y = 1 := Nat.dvd_one.mp d3
  rw [ey, Nat.mul_one] at e2
  rw [e2] at e1
  refine ⟨i, j, e1, ?_, ?_⟩
  · have d : 2 ^ i ∣ 2 ^ a * 3 ^ b := Nat.dvd_trans ⟨3 ^ j, e1⟩ h
    have c : Nat.Coprime (2 ^ i) (3 ^ b) := Nat.Coprime.pow i b (by decide)
    exact (Nat.pow_dvd_pow_iff_le_right (by decide)).mp (c.dvd_of_dvd_mul_right d)
  · have d : 3 ^ j ∣ 2 ^ a * 3 ^ b := Nat.dvd_trans ⟨2 ^ i, by rw [e1]; ac_rfl⟩ h
    have c : Nat.Coprime (3 ^ j) (2 ^ a) := Nat.Coprime.pow j a (by decide)
    exact (Nat.pow_dvd_pow_iff_le_right (by decide)).mp (c.dvd_of_dvd_mul_left d)
/-- each pair has a short form -/
theorem sh_ex : ∀ (k : Nat) {a b : Int}, a.natAbs + b.natAbs ≤ k → ¬ (a = 0 ∧ b = 0) → ∃ A C, Up a b A C ∧ Sh A C
  | 0, a, b, h, hz => absurd ⟨by omega, by omega⟩ hz
  | k + 1, a, b, h, hz => by
    by_cases hs : Sh a b
    · exact ⟨a, b, Up.refl a b, hs⟩
    · obtain ⟨p, hp⟩ := Classical.not_forall.mp hs
      obtain ⟨p2, hp⟩ := Classical.not_imp.mp hp
      obtain ⟨p4, hp⟩ := Classical.not_imp.mp hp
      have p6 := Classical.not_not.mp hp
      obtain ⟨x, ex⟩ := Int.ofNat_dvd_left.mpr p4
      obtain ⟨y, ey⟩ := Int.ofNat_dvd_left.mpr p6
      rw [Int.natCast_pow] at ex ey
      have q4 : 2 ≤ p ^ 4 := Nat.le_trans p2 (Nat.le_self_pow (by decide) p)
      have q6 : 2 ≤ p ^ 6 := Nat.le_trans p2 (Nat.le_self_pow (by decide) p)
      have ax : a.natAbs = p ^ 4 * x.natAbs := by rw [ex, Int.natAbs_mul, Int.natAbs_pow, Int.natAbs_natCast]
      have ay : b.natAbs = p ^ 6 * y.natAbs := by rw [ey, Int.natAbs_mul, Int.natAbs_pow, Int.natAbs_natCast]
      have hx : 2 * x.natAbs ≤ a.natAbs := by rw [ax]; exact Nat.mul_le_mul_right _ q4
      have hy : 2 * y.natAbs ≤ b.natAbs := by rw [ay]; exact Nat.mul_le_mul_right _ q6
      have hz2 : ¬ (x = 0 ∧ y = 0) := by
        rintro ⟨rfl, rfl⟩
        exact hz ⟨by rw [ex, Int.mul_zero], by rw [ey, Int.mul_zero]⟩
      obtain ⟨A, C, u, s⟩ := sh_ex k (a := x) (b := y) (by omega) hz2
      exact ⟨A, C, Up.trans ⟨p, by omega, ex, ey⟩ u, s⟩
/-- a scale that is let divides the greatest power -/
theorem Lets.most {c4 c6 A C : Int} {u v : Nat} (h : Lets c4 c6 v) (hz : ¬ (c4 = 0 ∧ c6 = 0)) (u0 : 0 < u) (e4 : c4 = (u : Int) ^ 4 * A) (e6 : c6 = (u : Int) ^ 6 * C) (s : Sh A C) : v ∣ u := by
  obtain ⟨v0, x, y, f4, f6, -⟩ := h
  have hz2 : ¬ (x = 0 ∧ y = 0) := by
    rintro ⟨rfl, rfl⟩
    exact hz ⟨by rw [f4, Int.mul_zero], by rw [f6, Int.mul_zero]⟩
  obtain ⟨X, Y, ⟨t, t0, g4, g6⟩, s2⟩ := sh_ex _ (Nat.le_refl _) hz2
  have k4 : c4 = ((v * t : Nat) : Int) ^ 4 * X := by
    rw [f4, g4, Int.natCast_mul]
    grind
  have k6 : c6 = ((v * t : Nat) : Int) ^ 6 * Y := by
    rw [f6, g6, Int.natCast_mul]
    grind
  have n4 : u ^ 4 * A.natAbs = (v * t) ^ 4 * X.natAbs := by
    have := congrArg Int.natAbs (e4.symm.trans k4)
    rwa [Int.natAbs_mul, Int.natAbs_mul, Int.natAbs_pow, Int.natAbs_pow, Int.natAbs_natCast, Int.natAbs_natCast] at this
  have n6 : u ^ 6 * C.natAbs = (v * t) ^ 6 * Y.natAbs := by
    have := congrArg Int.natAbs (e6.symm.trans k6)
    rwa [Int.natAbs_mul, Int.natAbs_mul, Int.natAbs_pow, Int.natAbs_pow, Int.natAbs_natCast, Int.natAbs_natCast] at this
  have := uniqN u0 (Nat.mul_pos v0 t0) n4 n6 s s2
  exact ⟨t, this⟩
/-- the greatest power is the greatest scale times twos and threes -/
theorem most_is {c4 c6 A C : Int} {u w : Nat} (h1 : Lets c4 c6 1) (hz : ¬ (c4 = 0 ∧ c6 = 0)) (u0 : 0 < u) (e4 : c4 = (u : Int) ^ 4 * A) (e6 : c6 = (u : Int) ^ 6 * C) (s : Sh A C) (hw : ∀ v, Lets c4 c6 v ↔ 0 < v ∧ v ∣ w) (w0 : 0 < w) {a b m : Nat} (hu : u = 2 ^ a * (3 ^ b * m)) (m2 : ¬ 2 ∣ m) (m3 : ¬ 3 ∣ m) :
    ∃ i j, i ≤ a ∧ j ≤ b ∧ u = w * (2 ^ i * 3 ^ j) := by
  have m0 : 0 < m := Nat.pos_of_ne_zero fun z => m2 (z ▸ Nat.dvd_zero 2)
  have hm : Lets c4 c6 m := by
    obtain ⟨-, x, y, f4, f6, hp⟩ := h1
    obtain rfl : c4 = x := by rw [f4]; simp
    obtain rfl : c6 = y := by rw [f6]; simp
    refine ⟨m0, ((2 ^ a * 3 ^ b : Nat) : Int) ^ 4 * A, ((2 ^ a * 3 ^ b : Nat) : Int) ^ 6 * C, ?_, ?_, ?_⟩
    · rw [e4, hu, show 2 ^ a * (3 ^ b * m) = 2 ^ a * 3 ^ b * m by ac_rfl, Int.natCast_mul]
      grind
    · rw [e6, hu, show 2 ^ a * (3 ^ b * m) = 2 ^ a * 3 ^ b * m by ac_rfl, Int.natCast_mul]
      grind
    · obtain ⟨p2, p3, pz⟩ := isp_to hp
      have k4 : c4 = (m : Int) ^ 4 * (((2 ^ a * 3 ^ b : Nat) : Int) ^ 4 * A) := by
        rw [e4, hu, show 2 ^ a * (3 ^ b * m) = 2 ^ a * 3 ^ b * m by ac_rfl, Int.natCast_mul]
        grind
      have k6 : c6 = (m : Int) ^ 6 * (((2 ^ a * 3 ^ b : Nat) : Int) ^ 6 * C) := by
        rw [e6, hu, show 2 ^ a * (3 ^ b * m) = 2 ^ a * 3 ^ b * m by ac_rfl, Int.natCast_mul]
        grind
      rw [k4, k6] at p2 p3 pz
      exact isp_of ((a2_odd (by omega)).mp p2) ((a3_no (by omega)).mp p3) ((isp_nz (by omega)).mp pz)
  have dm : m ∣ w := ((hw m).mp hm).2
  have dw : w ∣ u := Lets.most ((hw w).mpr ⟨w0, Nat.dvd_refl w⟩) hz u0 e4 e6 s
  obtain ⟨t, ht⟩ := dw
  have t0 : 0 < t := Nat.pos_of_ne_zero fun z => by rw [z, Nat.mul_zero] at ht; omega
  obtain ⟨x, hx⟩ := dm
  have dt : t ∣ 2 ^ a * 3 ^ b := by
    refine ⟨x, Nat.eq_of_mul_eq_mul_left m0 ?_⟩
    calc m * (2 ^ a * 3 ^ b) = u := by rw [hu]; ac_rfl
      _ = w * t := ht
      _ = m * (t * x) := by rw [hx]; ac_rfl
  obtain ⟨i, j, e, hi, hj⟩ := dvd23 dt t0
  exact ⟨i, j, hi, hj, by rw [ht, e]⟩
end K13
set_option Elab.async false
set_option linter.all false
set_option maxRecDepth 100000
set_option maxHeartbeats 4000000
namespace K13
open PySem PySem.Spec PyProof.Rows L2 Gd QM K08M
section
variable {P : Program} {w : World} {K : PySem.W.Frag} {mg : Str → Option Value} {base : Heap}
/-! ### the greatest scale -/
theorem div_pow {u : Nat} {k : Nat} {n A : Int} (hA : A ≠ 0) (e : n = (u : Int) ^ k * A) : n.fdiv A = (u : Int) ^ k := by
  rw [e]
  exact Int.mul_fdiv_cancel _ hA
def sp_greatest_scale (K : PySem.W.Frag) : Sp := fun vs H Q _ => ∃ a b : Int, vs = [.int a, .int b] ∧ PB a b ∧ ∀ (u : Nat) (A C : Int) H', Same H H' → 0 < u → a = (u : Int) ^ 4 * A → b = (u : Int) ^ 6 * C → Sh A C → Q (.int (u : Int)) H'
abbrev s_greatest_scale : Stmt := topS 48
theorem sc_greatest_scale : FnScope ["c4", "c6", "d4", "d6"] ["c4", "c6"] (defScope s_greatest_scale) := ⟨rfl, rfl, rfl, by decide +kernel, rfl, by decide +kernel, by decide +kernel⟩
theorem k_greatest_scale (T : Tx K mg) (D : Df K mg "greatest_scale" s_greatest_scale ["c4", "c6"]) (c_without_powers : Kl P w K mg base 7 "without_powers" (sp_without_powers K)) (c_exact_root : Kl P w K mg base 3 "exact_root" (sp_exact_root K)) : Kl P w K mg base 8 "greatest_scale" (sp_greatest_scale K) := by
  have nd := sc_greatest_scale.nd
  refine Kl.by_body D sc_greatest_scale (fun vs H Q E h => ?_) (fun f cdv A outer s H vs Q E hr h => ?_)
  · obtain ⟨_, _, rfl, _⟩ := h
    rfl
  · obtain ⟨a, b, rfl, hp, q⟩ := h
    have hu1 := hu_of hr
    refine ⟨_, (pss_cons (ps_asg (pe_k c_without_powers  hr (by decide) (by rfl) (pa_cons (pv 0) (pa_cons (pv 1) pa_nil))) (pg_tup rfl (pgs_cons (pg_name (i := 2) nd rfl (by first | exact Or.inl rfl | exact Or.inr rfl)) (pgs_cons (pg_name (i := 3) nd rfl (by first | exact Or.inl rfl | exact Or.inr rfl)) pgs_nil))))
      (pss_cons (ps_if (pt_cmpR op_eq (pv 0) pe_int (nomark _)) (pss_one (ps_ret (pe_k c_exact_root  hr (by decide) (by rfl) (pa_cons (pe_op op_fdivAny (pv 1) (pv 3)) (pa_cons pe_int pa_nil))))) pss_nil)
      (pss_one (ps_ret (pe_k c_exact_root  hr (by decide) (by rfl) (pa_cons (pe_op op_fdivAny (pv 0) (pv 2)) (pa_cons pe_int pa_nil))))))), ?_⟩
    refine ⟨_, rfl, _, rfl, a, b, rfl, hp, fun A C t H1 up sh s1 n1 g1 => ?_⟩
    refine ⟨t, _, rfl, tup_of g1, rfl, _, _, rfl, _, _, rfl, rfl, ?_⟩
    first | refine sigN [some (.int (a)), some (.int (b)), some (.int (A)), some (.int (C))] (by rfl) ?_ | refine sig [some (.int (a)), some (.int (b)), some (.int (A)), some (.int (C))] (by rfl) ?_
    have pAC := (hp.up up).1
    obtain ⟨u, u0, e4, e6⟩ := up
    refine ⟨_, rfl, rfl, _, rfl, ?_⟩
    rw [dec_int]
    by_cases a0 : a = 0
    · refine iteY (beq_iff_eq.mpr a0) ?_
      have A0 : A = 0 := by
        rw [a0] at e4
        rcases Int.mul_eq_zero.mp e4.symm with z | z
        · exact absurd z (Int.pow_ne_zero (by omega))
        · exact z
      have C0 : C ≠ 0 := fun z => pAC.1 ⟨A0, z⟩
      have ed := div_pow C0 e6
      refine ⟨_, rfl, _, rfl, b, C, rfl, rfl, div_any C0 pAC.b (by decide), ?_⟩
      refine ⟨b.fdiv C, (u : Int), 5, rfl, ?_, by omega, by omega, ed.symm, q u A C H1 s1 u0 e4 e6 sh⟩
      have hle : ((u : Int) ^ 6).natAbs ≤ b.natAbs := by
        rw [e6, Int.natAbs_mul]
        exact Nat.le_mul_of_pos_right _ (by omega)
      rw [ed]
      exact B.up (show B 80 _ from Nat.lt_of_le_of_lt hle hp.b) (by decide)
    · refine iteN (fun z => a0 (beq_iff_eq.mp z)) ?_
      have A0 : A ≠ 0 := fun z => a0 (by rw [e4, z, Int.mul_zero])
      have ed := div_pow A0 e4
      refine ⟨_, rfl, _, rfl, a, A, rfl, rfl, div_any A0 pAC.a (by decide), ?_⟩
      refine ⟨a.fdiv A, (u : Int), 3, rfl, ?_, by omega, by omega, ed.symm, q u A C H1 s1 u0 e4 e6 sh⟩
      have hle : ((u : Int) ^ 4).natAbs ≤ a.natAbs := by
        rw [e4, Int.natAbs_mul]
        exact Nat.le_mul_of_pos_right _ (by omega)
      rw [ed]
      exact B.up (show B 54 _ from Nat.lt_of_le_of_lt hle hp.a) (by decide)
end
end K13
set_option Elab.async false
set_option linter.all false
set_option maxRecDepth 100000
set_option maxHeartbeats 4000000
namespace K13
open PySem PySem.Spec PyProof.Rows L2 Gd QM K08M
section
variable {P : Program} {w : World} {K : PySem.W.Frag} {mg : Str → Option Value} {base : Heap}
/-! ### how often a prime divides -/
def sp_valuation (K : PySem.W.Frag) : Sp := fun vs H Q _ => ∃ (p k m : Nat), vs = [.int ((p ^ k * m : Nat) : Int), .int (p : Int)] ∧ 2 ≤ p ∧ p ≤ 10000 ∧ ¬ p ∣ m ∧ Q (.int (k : Int)) H
abbrev s_valuation : Stmt := topS 4
theorem sc_valuation : FnScope ["n", "p", "many"] ["n", "p"] (defScope s_valuation) := ⟨rfl, rfl, rfl, by decide +kernel, rfl, by decide +kernel, by decide +kernel⟩
theorem k_valuation (T : Tx K mg) (D : Df K mg "valuation" s_valuation ["n", "p"])  : Kl P w K mg base 1 "valuation" (sp_valuation K) := by
  have nd := sc_valuation.nd
  refine Kl.by_body D sc_valuation (fun vs H Q E h => ?_) (fun f cdv A outer s H vs Q E hr h => ?_)
  · obtain ⟨_, _, _, rfl, _⟩ := h
    rfl
  · obtain ⟨p, k, m, rfl, h2, h4, hm, q⟩ := h
    have hu1 := hu_of hr
    refine ⟨_, (pss_cons (ps_set (i := 2) nd rfl (by first | exact Or.inl rfl | exact Or.inr rfl) pe_int)
      (pss_cons (ps_while PassesOwn.never (pt_cmpR op_eq (pe_op op_mod (pv 0) (pv 1)) pe_int (nomark _)) (pss_cons (ps_aug (i := 0) nd rfl (by first | exact Or.inl rfl | exact Or.inr rfl) (pv 1) ip_fdivAny)
      (pss_one (ps_aug (i := 2) nd rfl (by first | exact Or.inl rfl | exact Or.inr rfl) pe_int ip_add))))
      (pss_one (ps_ret (pv 2))))), ?_⟩
    have bp : B 14 (p : Int) := by
      unfold B
      omega
    refine while_by (fun σ H2 => ∃ i j : Nat, i + j = k ∧ σ = [some (.int ((p ^ i * m : Nat) : Int)), some (.int (p : Int)), some (.int (j : Int))] ∧ H2 = H)
      (fun σ _ => match σ with | [_, _, some (.int j)] => k - j.toNat | _ => 0) ⟨k, 0, rfl, rfl, rfl⟩ ?_ ?_
    · rintro σ H2 ⟨i, j, hij, rfl, rfl⟩
      refine ⟨_, rfl, _, rfl, ((p ^ i * m : Nat) : Int), (p : Int), rfl, rfl, by omega, rfl, _, rfl, ?_⟩
      rw [dec_int]
      cases i with
      | zero =>
        have e : p ^ 0 * m = m := by rw [Nat.pow_zero, Nat.one_mul]
        rw [e]
        refine iteN (fun z => ?_) ?_
        · refine hm ?_
          have := Int.dvd_of_emod_eq_zero (beq_iff_eq.mp z)
          exact Int.natCast_dvd_natCast.mp this
        · obtain rfl : j = k := by omega
          exact ⟨_, rfl, q⟩
      | succ i =>
        have e : p ^ (i + 1) * m = p * (p ^ i * m) := by rw [Nat.pow_succ]; ac_rfl
        rw [e, Int.natCast_mul]
        refine iteY (by simp) ?_
        refine ⟨_, rfl, _, rfl, (p : Int) * ((p ^ i * m : Nat) : Int), (p : Int), rfl, rfl, div_any (by omega) bp (by decide), ?_⟩
        have ed : ((p : Int) * ((p ^ i * m : Nat) : Int)).fdiv (p : Int) = ((p ^ i * m : Nat) : Int) := Int.mul_fdiv_cancel_left _ (by omega)
        refine ⟨_, rfl, _, _, rfl, rfl, ?_⟩
        refine ⟨⟨i, j + 1, by omega, ?_, rfl⟩, ?_⟩
        · show [some (V.int (((p : Int) * ((p ^ i * m : Nat) : Int)).fdiv (p : Int))), some (V.int (p : Int)), some (V.int ((j : Int) + 1))] = _
          rw [ed]
          rfl
        · show k - ((j : Int) + 1).toNat < k - (j : Int).toNat
          omega
    · rintro σ H2 Q1 Q2 i ⟨v1, e1, v2, e2, x, y, e3, e4, e5, e6, c, e7, z⟩
      refine ⟨v1, e1, v2, e2, x, y, e3, e4, e5, e6, c, e7, ?_⟩
      exact i _ _ z
end
end K13
set_option Elab.async false
set_option linter.all false
set_option maxRecDepth 100000
set_option maxHeartbeats 4000000
namespace K13
open PySem PySem.Spec PyProof.Rows L2 Gd QM
local macro_rules | `(tactic| walk_at "bd") => `(tactic| (repeat (first | assumption | apply B.add | apply B.sub | apply B.mul | apply B.neg | exact B.lit (n := 8) (by decide))))
local macro_rules | `(tactic| walk_at "bu") => `(tactic| (apply B.up; walk_at "bd"; decide))
local macro_rules | `(tactic| walk_at "bnd") => `(tactic| (apply B.mulW; walk_at "bd"; decide))
section
variable {P : Program} {w : World} {K : PySem.W.Frag} {mg : Str → Option Value} {base : Heap}
/-! ### the numbers of a curve, as the program tells them -/
def sp_numbers_of (K : PySem.W.Frag) : Sp := fun vs H Q _ => ∃ (p : Addr) (c : Cv), vs = [.ref p] ∧ SqT K H p c.tup ∧ c.Md ∧ ∀ t, H t = none → Q (.ref t) (upd H t (.tup c.nums))
abbrev s_numbers_of : Stmt := topS 32
theorem sc_numbers_of : FnScope ["curve", "a1", "a2", "a3", "a4", "a6", "b2", "b4", "b6", "b8", "c4", "c6", "d"] ["curve"] (defScope s_numbers_of) := ⟨rfl, rfl, rfl, by decide +kernel, rfl, by decide +kernel, by decide +kernel⟩
theorem k_numbers_of (T : Tx K mg) (D : Df K mg "numbers_of" s_numbers_of ["curve"]) (c_five : Kl P w K mg base 1 "five" (sp_five K)) : Kl P w K mg base 2 "numbers_of" (sp_numbers_of K) := by
  have nd := sc_numbers_of.nd
  refine Kl.by_body D sc_numbers_of (fun vs H Q E h => ?_) (fun f cdv A outer s H vs Q E hr h => ?_)
  · obtain ⟨_, _, rfl, _⟩ := h
    rfl
  · obtain ⟨p, c, rfl, hx, hm, q⟩ := h
    have hu1 := hu_of hr
    refine ⟨_, (pss_cons (ps_asg (pe_k c_five  hr (by decide) (by rfl) (pa_cons (pv 0) pa_nil)) (pg_tup rfl (pgs_cons (pg_name (i := 1) nd rfl (by first | exact Or.inl rfl | exact Or.inr rfl)) (pgs_cons (pg_name (i := 2) nd rfl (by first | exact Or.inl rfl | exact Or.inr rfl)) (pgs_cons (pg_name (i := 3) nd rfl (by first | exact Or.inl rfl | exact Or.inr rfl)) (pgs_cons (pg_name (i := 4) nd rfl (by first | exact Or.inl rfl | exact Or.inr rfl)) (pgs_cons (pg_name (i := 5) nd rfl (by first | exact Or.inl rfl | exact Or.inr rfl)) pgs_nil)))))))
      (pss_cons (ps_set (i := 6) nd rfl (by first | exact Or.inl rfl | exact Or.inr rfl) (pe_op op_add (pe_op op_mulW (pv 1) (pv 1)) (pe_op op_mul pe_int (pv 2))))
      (pss_cons (ps_set (i := 7) nd rfl (by first | exact Or.inl rfl | exact Or.inr rfl) (pe_op op_add (pe_op op_mul pe_int (pv 4)) (pe_op op_mulW (pv 1) (pv 3))))
      (pss_cons (ps_set (i := 8) nd rfl (by first | exact Or.inl rfl | exact Or.inr rfl) (pe_op op_add (pe_op op_mulW (pv 3) (pv 3)) (pe_op op_mul pe_int (pv 5))))
      (pss_cons (ps_set (i := 9) nd rfl (by first | exact Or.inl rfl | exact Or.inr rfl) (pe_op op_sub (pe_op op_add (pe_op op_sub (pe_op op_add (pe_op op_mulW (pe_op op_mulW (pv 1) (pv 1)) (pv 5)) (pe_op op_mulW (pe_op op_mul pe_int (pv 2)) (pv 5))) (pe_op op_mulW (pe_op op_mulW (pv 1) (pv 3)) (pv 4))) (pe_op op_mulW (pe_op op_mulW (pv 2) (pv 3)) (pv 3))) (pe_op op_mulW (pv 4) (pv 4))))
      (pss_cons (ps_set (i := 10) nd rfl (by first | exact Or.inl rfl | exact Or.inr rfl) (pe_op op_sub (pe_op op_mulW (pv 6) (pv 6)) (pe_op op_mul pe_int (pv 7))))
      (pss_cons (ps_set (i := 11) nd rfl (by first | exact Or.inl rfl | exact Or.inr rfl) (pe_op op_sub (pe_op op_sub (pe_op op_mulW (pe_op op_mul pe_int (pv 6)) (pv 7)) (pe_op op_mulW (pe_op op_mulW (pv 6) (pv 6)) (pv 6))) (pe_op op_mul pe_int (pv 8))))
      (pss_cons (ps_set (i := 12) nd rfl (by first | exact Or.inl rfl | exact Or.inr rfl) (pe_op op_sub (pe_op op_sub (pe_op op_sub (pe_op op_mulW (pe_op op_mulW (pe_op op_mul pe_int (pv 6)) (pv 7)) (pv 8)) (pe_op op_mulW (pe_op op_mulW (pv 6) (pv 6)) (pv 9))) (pe_op op_mulW (pe_op op_mulW (pe_op op_mul pe_int (pv 7)) (pv 7)) (pv 7))) (pe_op op_mulW (pe_op op_mul pe_int (pv 8)) (pv 8))))
      (pss_one (ps_ret (pe_tup (pa_cons (pv 6) (pa_cons (pv 7) (pa_cons (pv 8) (pa_cons (pv 9) (pa_cons (pv 10) (pa_cons (pv 11) (pa_cons (pv 12) pa_nil)))))))))))))))))), ?_⟩
    refine ⟨.ref p, rfl, p, c, rfl, hx, ?_⟩
    have e2 := hm.b2
    have e4 := hm.b4
    have e6 := hm.b6
    have e8 := hm.b8
    obtain ⟨h1, h2, h3, h4, h6⟩ := hm
    refine ⟨p, _, rfl, hx, rfl, _, _, rfl, _, _, rfl, _, _, rfl, _, _, rfl, _, _, rfl, rfl, ?_⟩
    first | refine sigN [some (.ref p), some (.int (c.a1)), some (.int (c.a2)), some (.int (c.a3)), some (.int (c.a4)), some (.int (c.a6)), none, none, none, none, none, none, none] (by rfl) ?_ | refine sig [some (.ref p), some (.int (c.a1)), some (.int (c.a2)), some (.int (c.a3)), some (.int (c.a4)), some (.int (c.a6)), none, none, none, none, none, none, none] (by rfl) ?_
    refine ⟨_, rfl, _, rfl, _, _, rfl, rfl, (by walk_at "bnd"), _, rfl, _, _, rfl, rfl, (Or.inl ⟨by decide, by decide⟩), _, _, rfl, rfl, ?_⟩
    first | refine sigN [some (.ref p), some (.int (c.a1)), some (.int (c.a2)), some (.int (c.a3)), some (.int (c.a4)), some (.int (c.a6)), some (.int (c.b2)), none, none, none, none, none, none] (by rfl) ?_ | refine sig [some (.ref p), some (.int (c.a1)), some (.int (c.a2)), some (.int (c.a3)), some (.int (c.a4)), some (.int (c.a6)), some (.int (c.b2)), none, none, none, none, none, none] (by rfl) ?_
    refine ⟨_, rfl, _, _, rfl, rfl, (Or.inl ⟨by decide, by decide⟩), _, rfl, _, rfl, _, _, rfl, rfl, (by walk_at "bnd"), _, _, rfl, rfl, ?_⟩
    first | refine sigN [some (.ref p), some (.int (c.a1)), some (.int (c.a2)), some (.int (c.a3)), some (.int (c.a4)), some (.int (c.a6)), some (.int (c.b2)), some (.int (c.b4)), none, none, none, none, none] (by rfl) ?_ | refine sig [some (.ref p), some (.int (c.a1)), some (.int (c.a2)), some (.int (c.a3)), some (.int (c.a4)), some (.int (c.a6)), some (.int (c.b2)), some (.int (c.b4)), none, none, none, none, none] (by rfl) ?_
    refine ⟨_, rfl, _, rfl, _, _, rfl, rfl, (by walk_at "bnd"), _, rfl, _, _, rfl, rfl, (Or.inl ⟨by decide, by decide⟩), _, _, rfl, rfl, ?_⟩
    first | refine sigN [some (.ref p), some (.int (c.a1)), some (.int (c.a2)), some (.int (c.a3)), some (.int (c.a4)), some (.int (c.a6)), some (.int (c.b2)), some (.int (c.b4)), some (.int (c.b6)), none, none, none, none] (by rfl) ?_ | refine sig [some (.ref p), some (.int (c.a1)), some (.int (c.a2)), some (.int (c.a3)), some (.int (c.a4)), some (.int (c.a6)), some (.int (c.b2)), some (.int (c.b4)), some (.int (c.b6)), none, none, none, none] (by rfl) ?_
    refine ⟨_, rfl, _, rfl, _, _, rfl, rfl, (by walk_at "bnd"), _, rfl, _, _, rfl, rfl, (by walk_at "bnd"), _, rfl, _, _, rfl, rfl, (Or.inl ⟨by decide, by decide⟩), _, rfl, _, _, rfl, rfl, (by walk_at "bnd"), _, _, rfl, rfl, _, rfl, _, rfl, _, _, rfl, rfl, (by walk_at "bnd"), _, rfl, _, _, rfl, rfl, (by walk_at "bnd"), _, _, rfl, rfl, _, rfl, _, rfl, _, _, rfl, rfl, (by walk_at "bnd"), _, rfl, _, _, rfl, rfl, (by walk_at "bnd"), _, _, rfl, rfl, _, rfl, _, rfl, _, _, rfl, rfl, (by walk_at "bnd"), _, _, rfl, rfl, ?_⟩
    first | refine sigN [some (.ref p), some (.int (c.a1)), some (.int (c.a2)), some (.int (c.a3)), some (.int (c.a4)), some (.int (c.a6)), some (.int (c.b2)), some (.int (c.b4)), some (.int (c.b6)), some (.int (c.b8)), none, none, none] (by rfl) ?_ | refine sig [some (.ref p), some (.int (c.a1)), some (.int (c.a2)), some (.int (c.a3)), some (.int (c.a4)), some (.int (c.a6)), some (.int (c.b2)), some (.int (c.b4)), some (.int (c.b6)), some (.int (c.b8)), none, none, none] (by rfl) ?_
    refine ⟨_, rfl, _, rfl, _, _, rfl, rfl, (by walk_at "bnd"), _, rfl, _, _, rfl, rfl, (Or.inl ⟨by decide, by decide⟩), _, _, rfl, rfl, ?_⟩
    first | refine sigN [some (.ref p), some (.int (c.a1)), some (.int (c.a2)), some (.int (c.a3)), some (.int (c.a4)), some (.int (c.a6)), some (.int (c.b2)), some (.int (c.b4)), some (.int (c.b6)), some (.int (c.b8)), some (.int (c.c4)), none, none] (by rfl) ?_ | refine sig [some (.ref p), some (.int (c.a1)), some (.int (c.a2)), some (.int (c.a3)), some (.int (c.a4)), some (.int (c.a6)), some (.int (c.b2)), some (.int (c.b4)), some (.int (c.b6)), some (.int (c.b8)), some (.int (c.c4)), none, none] (by rfl) ?_
    refine ⟨_, rfl, _, _, rfl, rfl, (Or.inl ⟨by decide, by decide⟩), _, rfl, _, _, rfl, rfl, (by walk_at "bnd"), _, rfl, _, rfl, _, _, rfl, rfl, (by walk_at "bnd"), _, rfl, _, _, rfl, rfl, (by walk_at "bnd"), _, _, rfl, rfl, _, rfl, _, _, rfl, rfl, (Or.inl ⟨by decide, by decide⟩), _, _, rfl, rfl, ?_⟩
    first | refine sigN [some (.ref p), some (.int (c.a1)), some (.int (c.a2)), some (.int (c.a3)), some (.int (c.a4)), some (.int (c.a6)), some (.int (c.b2)), some (.int (c.b4)), some (.int (c.b6)), some (.int (c.b8)), some (.int (c.c4)), some (.int (c.c6)), none] (by rfl) ?_ | refine sig [some (.ref p), some (.int (c.a1)), some (.int (c.a2)), some (.int (c.a3)), some (.int (c.a4)), some (.int (c.a6)), some (.int (c.b2)), some (.int (c.b4)), some (.int (c.b6)), some (.int (c.b8)), some (.int (c.c4)), some (.int (c.c6)), none] (by rfl) ?_
    refine ⟨_, rfl, _, _, rfl, rfl, (Or.inl ⟨by decide, by decide⟩), _, rfl, _, _, rfl, rfl, (by walk_at "bnd"), _, rfl, _, _, rfl, rfl, (by walk_at "bnd"), _, rfl, _, rfl, _, _, rfl, rfl, (by walk_at "bnd"), _, rfl, _, _, rfl, rfl, (by walk_at "bnd"), _, _, rfl, rfl, _, rfl, _, _, rfl, rfl, (Or.inl ⟨by decide, by decide⟩), _, rfl, _, _, rfl, rfl, (by walk_at "bnd"), _, rfl, _, _, rfl, rfl, (by walk_at "bnd"), _, _, rfl, rfl, _, rfl, _, _, rfl, rfl, (Or.inl ⟨by decide, by decide⟩), _, rfl, _, _, rfl, rfl, (by walk_at "bnd"), _, _, rfl, rfl, ?_⟩
    first | refine sigN [some (.ref p), some (.int (c.a1)), some (.int (c.a2)), some (.int (c.a3)), some (.int (c.a4)), some (.int (c.a6)), some (.int (c.b2)), some (.int (c.b4)), some (.int (c.b6)), some (.int (c.b8)), some (.int (c.c4)), some (.int (c.c6)), some (.int (c.disc))] (by rfl) ?_ | refine sig [some (.ref p), some (.int (c.a1)), some (.int (c.a2)), some (.int (c.a3)), some (.int (c.a4)), some (.int (c.a6)), some (.int (c.b2)), some (.int (c.b4)), some (.int (c.b6)), some (.int (c.b8)), some (.int (c.c4)), some (.int (c.c6)), some (.int (c.disc))] (by rfl) ?_
    refine ⟨_, rfl, _, rfl, _, rfl, _, rfl, _, rfl, _, rfl, _, rfl, (by show 7 ≤ sizeLine; decide), fun t2 nt2 => ?_⟩
    exact q t2 nt2
/-! ### a drawn curve -/
structure Cv.Tn (c : Cv) : Prop where
  h1 : c.a1.natAbs ≤ 2
  h2 : c.a2.natAbs ≤ 2
  h3 : c.a3.natAbs ≤ 2
  h4 : c.a4.natAbs ≤ 30
  h6 : c.a6.natAbs ≤ 90
def sp_law_curve (K : PySem.W.Frag) : Sp := fun vs H Q _ => ∃ (m cl : Addr) (z : Int) (n : Nat), vs = [.ref m, .int z] ∧ 0 ≤ z ∧ z ≤ 30 ∧ n ≤ 1000 ∧ MAt H m cl n ∧ ∀ H' t c, But m H H' → MAt H' m cl (n + 300) → SqT K H' t (Cv.tup c) → Cv.Tn c → c.disc ≠ 0 → Q (.ref t) H'
abbrev s__law_curve : Stmt := topS 65
theorem sc__law_curve : FnScope ["m", "size", "lap", "five_v"] ["m", "size"] (defScope s__law_curve) := ⟨rfl, rfl, rfl, by decide +kernel, rfl, by decide +kernel, by decide +kernel⟩
theorem k_law_curve (T : Tx K mg) (D : Df K mg "_law_curve" s__law_curve ["m", "size"]) (c_law_between : Kl P w K mg base 2 "_law_between" (sp_law_between K)) (c_law_numbers : Kl P w K mg base 1 "_law_numbers" (sp_law_numbers K)) : Kl P w K mg base 3 "_law_curve" (sp_law_curve K) := by
  have nd := sc__law_curve.nd
  refine Kl.by_body D sc__law_curve (fun vs H Q E h => ?_) (fun f cdv A outer s H vs Q E hr h => ?_)
  · obtain ⟨_, _, _, _, rfl, _⟩ := h
    rfl
  · obtain ⟨m, cl, z, n, rfl, z0, z1, hn, hM, q⟩ := h
    have hu1 := hu_of hr
    refine ⟨_, (pss_cons (ps_for PassesOwn.never rfl (pi_range1 (by rfl) T.range (pa_cons pe_int pa_nil)) (pg_name (i := 2) nd rfl (by first | exact Or.inl rfl | exact Or.inr rfl)) (pss_cons (ps_set (i := 3) nd rfl (by first | exact Or.inl rfl | exact Or.inr rfl) (pe_tup (pa_cons (pe_k c_law_between  hr (by decide) (by rfl) (pa_cons (pv 0) (pa_cons pe_int pa_nil))) (pa_cons (pe_k c_law_between  hr (by decide) (by rfl) (pa_cons (pv 0) (pa_cons pe_int pa_nil))) (pa_cons (pe_k c_law_between  hr (by decide) (by rfl) (pa_cons (pv 0) (pa_cons pe_int pa_nil))) (pa_cons (pe_k c_law_between  hr (by decide) (by rfl) (pa_cons (pv 0) (pa_cons (pv 1) pa_nil))) (pa_cons (pe_op op_add (pe_k c_law_between  hr (by decide) (by rfl) (pa_cons (pv 0) (pa_cons (pv 1) pa_nil))) (pv 2)) pa_nil)))))))
      (pss_one (ps_if (pt_cmpR op_ne (pe_ix ix_tup (pe_k c_law_numbers  hr (by decide) (by rfl) (pa_cons (pv 3) pa_nil)) pe_int (fun _ _ => rfl)) pe_int (nomark _)) (pss_one (ps_ret (pv 3))) pss_nil))))
      (pss_one (ps_ret (pe_tup (pa_cons pe_int (pa_cons pe_int (pa_cons pe_int (pa_cons (pe_un un_neg pe_int) (pa_cons pe_int pa_nil))))))))), ?_⟩
    refine ⟨60, rfl, by decide, by decide, for_range (lo := 0) (n := 60) (fun i σ H2 => But m H H2 ∧ MAt H2 m cl (n + 5 * i) ∧ ∃ v1 v2 : Option V, σ = [some (.ref m), some (.int z), v1, v2]) ⟨But.refl m H, hM, none, none, rfl⟩ ?_ ?_⟩
    · rintro i σ H2 hi ⟨b2, m2, v1, v2, rfl⟩
      refine ⟨_, rfl, m, cl, 2, n + 5 * i, rfl, by decide, by decide, by omega, m2, fun H3 a1 b3 m3 a10 a11 => ?_⟩
      refine ⟨_, rfl, m, cl, 2, n + 5 * i + 1, rfl, by decide, by decide, by omega, m3, fun H4 a2 b4 m4 a20 a21 => ?_⟩
      refine ⟨_, rfl, m, cl, 2, n + 5 * i + 1 + 1, rfl, by decide, by decide, by omega, m4, fun H5 a3 b5 m5 a30 a31 => ?_⟩
      refine ⟨_, rfl, _, rfl, m, cl, z, n + 5 * i + 1 + 1 + 1, rfl, z0, by omega, by omega, m5, fun H6 a4 b6 m6 a40 a41 => ?_⟩
      refine ⟨_, rfl, _, rfl, m, cl, z, n + 5 * i + 1 + 1 + 1 + 1, rfl, z0, by omega, by omega, m6, fun H7 a6 b7 m7 a60 a61 => ?_⟩
      refine ⟨_, rfl, _, _, rfl, rfl, (by show 5 ≤ sizeLine; decide), fun f nf => ?_⟩
      have s8 := Same.new (H := H7) (p := f) (o := .tup [.int a1, .int a2, .int a3, .int a4, .int (a6 + (0 + (i : Int)))]) nf
      have g8 : upd H7 f (.tup [.int a1, .int a2, .int a3, .int a4, .int (a6 + (0 + (i : Int)))]) f = some (.tup [.int a1, .int a2, .int a3, .int a4, .int (a6 + (0 + (i : Int)))]) := upd_same
      generalize upd H7 f (.tup [.int a1, .int a2, .int a3, .int a4, .int (a6 + (0 + (i : Int)))]) = H8 at s8 g8 ⊢
      have q6 : -90 ≤ a6 + (0 + (i : Int)) ∧ a6 + (0 + (i : Int)) ≤ 90 := by omega
      generalize a6 + (0 + (i : Int)) = e6 at g8 q6
      obtain ⟨q60, q61⟩ := q6
      have g : SqT K H8 f (Cv.tup ⟨a1, a2, a3, a4, e6⟩) := tup_of g8
      have hB : Cv.Tn ⟨a1, a2, a3, a4, e6⟩ := ⟨by dsimp only; omega, by dsimp only; omega, by dsimp only; omega, by dsimp only; omega, by dsimp only; omega⟩
      have hS : Cv.Md ⟨a1, a2, a3, a4, e6⟩ := ⟨by unfold B; dsimp only; omega, by unfold B; dsimp only; omega, by unfold B; dsimp only; omega, by unfold B; dsimp only; omega, by unfold B; dsimp only; omega⟩
      have bA : But m H H8 := b2.trans (b3.trans (b4.trans (b5.trans (b6.trans (b7.trans (But.of s8))))))
      have m8 := m7.same s8
      clear b2 b3 b4 b5 b6 b7 m2 m3 m4 m5 m6 m7 s8 g8
      refine ⟨.ref f, rfl, f, _, rfl, g, hS, fun t nt => ?_⟩
      have st := Same.new (H := H8) (p := t) (o := .tup (Cv.nums ⟨a1, a2, a3, a4, e6⟩)) nt
      refine ⟨t, _, 6, .int (Cv.disc ⟨a1, a2, a3, a4, e6⟩), rfl, rfl, tup_of upd_same, rfl, rfl, _, rfl, ?_⟩
      rw [dec_int]
      by_cases h0 : Cv.disc ⟨a1, a2, a3, a4, e6⟩ = 0
      · refine iteN (by simp [h0]) ?_
        exact ⟨bA.trans (But.of st), (m8.same st).up (by omega), _, _, rfl⟩
      · refine iteY (by simp [h0]) ?_
        exact ⟨_, rfl, q _ f _ (bA.trans (But.of st)) ((m8.same st).up (by omega)) (Same.tup st g) hB h0⟩
    · rintro σ H2 ⟨b2, m2, v1, v2, rfl⟩
      refine ⟨_, rfl, (by show 5 ≤ sizeLine; decide), fun t nt => ?_⟩
      have st := Same.new (H := H2) (p := t) (o := .tup [.int 0, .int 0, .int 1, .int (-1), .int 0]) nt
      exact q _ t ⟨0, 0, 1, -1, 0⟩ (b2.trans (But.of st)) ((m2.same st).up (by omega)) (tup_of upd_same) ⟨by decide, by decide, by decide, by decide, by decide⟩ (by decide)
end
end K13
set_option Elab.async false
set_option linter.all false
set_option maxRecDepth 100000
set_option maxHeartbeats 4000000
namespace K13
open PySem PySem.Spec PyProof.Rows L2 Gd QM
/-! the change that u tells -/
def cS (c e : Cv) (u : Rat) : Rat := (u * (e.a1 : Rat) - (c.a1 : Rat)) / 2
def cR (c e : Cv) (u : Rat) : Rat := (u * u * (e.a2 : Rat) - (c.a2 : Rat) + cS c e u * (c.a1 : Rat) + cS c e u * cS c e u) / 3
def cT (c e : Cv) (u : Rat) : Rat := (u * u * u * (e.a3 : Rat) - (c.a3 : Rat) - cR c e u * (c.a1 : Rat)) / 2
theorem rb12 {n : Int} (h : B 12 n) : RB 12 (n : Rat) := RB.int h (by decide)
theorem two_ne : (2 : Rat) ≠ 0 := by decide
theorem three_ne : (3 : Rat) ≠ 0 := by decide
theorem rb_half : RB 2 (1 / 2 : Rat) := ⟨by decide +kernel, by decide +kernel⟩
theorem rb_third : RB 2 (1 / 3 : Rat) := ⟨by decide +kernel, by decide +kernel⟩
theorem cS_B {c e : Cv} {u : Rat} (hc : c.Md) (he : e.Md) (hu : RB 160 u) : RB 190 (cS c e u) := RB.up (RB.div two_ne (RB.sub (RB.mul hu (rb12 he.h1)) (rb12 hc.h1)) rb_two) (by decide)
theorem cR_B {c e : Cv} {u : Rat} (hc : c.Md) (he : e.Md) (hu : RB 160 u) : RB 940 (cR c e u) := RB.up (RB.div three_ne (RB.add (RB.add (RB.sub (RB.mul (RB.mul hu hu) (rb12 he.h2)) (rb12 hc.h2)) (RB.mul (cS_B hc he hu) (rb12 hc.h1))) (RB.mul (cS_B hc he hu) (cS_B hc he hu))) rb_three) (by decide)
section
variable {P : Program} {w : World} {K : PySem.W.Frag} {mg : Str → Option Value} {base : Heap}
local macro_rules | `(tactic| walk_at "mm") => `(tactic| (repeat (first | exact List.mem_cons_self | apply List.mem_cons_of_mem)))
theorem cT_B {c e : Cv} {u : Rat} (hc : c.Md) (he : e.Md) (hu : RB 160 u) : RB 1460 (cT c e u) := RB.up (RB.div two_ne (RB.sub (RB.sub (RB.mul (RB.mul (RB.mul hu hu) hu) (rb12 he.h3)) (rb12 hc.h3)) (RB.mul (cR_B hc he hu) (rb12 hc.h1))) rb_two) (by decide)
/-! ### less, change_with -/
def sp_less : PySem.W.Frag → Sp := spBin (fun a b => True) (fun a b => a - b)
abbrev s_less : Stmt := topS 35
theorem sc_less : FnScope ["f", "g"] ["f", "g"] (defScope s_less) := ⟨rfl, rfl, rfl, by decide +kernel, rfl, by decide +kernel, by decide +kernel⟩
theorem k_less (T : Tx K mg) (D : Df K mg "less" s_less ["f", "g"]) (c_lowest : Kl P w K mg base 1 "lowest" (sp_lowest K)) : Kl P w K mg base 2 "less" (sp_less K) := by
  have nd := sc_less.nd
  refine Kl.by_body D sc_less (fun vs H Q E h => ?_) (fun f cdv A outer s H vs Q E hr h => ?_)
  · obtain ⟨_, _, _, _, rfl, _⟩ := h
    rfl
  · obtain ⟨f, g, a, b, rfl, hf, hg, ha, hb, h0, q⟩ := h
    have hu1 := hu_of hr
    refine ⟨_, (pss_one (ps_ret (pe_k c_lowest  hr (by decide) (by rfl) (pa_cons (pe_op op_sub (pe_op op_mulW (pe_ix ix_tup (pv 0) pe_int (fun _ _ => rfl)) (pe_ix ix_tup (pv 1) pe_int (fun _ _ => rfl))) (pe_op op_mulW (pe_ix ix_tup (pv 1) pe_int (fun _ _ => rfl)) (pe_ix ix_tup (pv 0) pe_int (fun _ _ => rfl)))) (pa_cons (pe_op op_mulW (pe_ix ix_tup (pv 0) pe_int (fun _ _ => rfl)) (pe_ix ix_tup (pv 1) pe_int (fun _ _ => rfl))) pa_nil))))), ?_⟩
    refine ⟨.ref f, rfl, f, _, 0, .int a.num, rfl, rfl, hf, rfl, .ref g, rfl, g, _, 1, .int b.den, rfl, rfl, hg, rfl, _, _, rfl, rfl, (B.mulW ha.n hb.d (by decide)), .ref g, rfl, g, _, 0, .int b.num, rfl, rfl, hg, rfl, .ref f, rfl, f, _, 1, .int a.den, rfl, rfl, hf, rfl, _, _, rfl, rfl, (B.mulW hb.n ha.d (by decide)), _, _, rfl, rfl, .ref f, rfl, f, _, 1, .int a.den, rfl, rfl, hf, rfl, .ref g, rfl, g, _, 1, .int b.den, rfl, rfl, hg, rfl, _, _, rfl, rfl, (B.mulW ha.d hb.d (by decide)), _, _, rfl, (mul_ne (den_ne a) (den_ne b)), ((B.mul ha.n hb.d).sub (B.mul hb.n ha.d)).up (by decide), (B.mul ha.d hb.d).up (by decide), fun t nt => ?_⟩
    rw [fr_sub a b]
    exact q t nt
def sp_change_with (K : PySem.W.Frag) : Sp := fun vs H Q _ => ∃ (p o v : Addr) (c e : Cv) (u : Rat), vs = [.ref p, .ref o, .ref v] ∧ SqT K H p c.tup ∧ SqT K H o e.tup ∧ c.Md ∧ e.Md ∧ SqT K H v (fq u) ∧ RB 160 u ∧
  ∀ H' t pr ps pt, Same H H' → H' t = some (.tup [.ref v, .ref pr, .ref ps, .ref pt]) → SqT K H' pr (fq (cR c e u)) → SqT K H' ps (fq (cS c e u)) → SqT K H' pt (fq (cT c e u)) → Q (.ref t) H'
abbrev s_change_with : Stmt := topS 42
theorem sc_change_with : FnScope ["curve", "other", "u", "a1", "a2", "a3", "_", "a", "d1", "d2", "d3", "uu", "s", "r", "t"] ["curve", "other", "u"] (defScope s_change_with) := ⟨rfl, rfl, rfl, by decide +kernel, rfl, by decide +kernel, by decide +kernel⟩
theorem k_change_with (T : Tx K mg) (D : Df K mg "change_with" s_change_with ["curve", "other", "u"]) (c_times : Kl P w K mg base 2 "times" (sp_times K)) (c_over : Kl P w K mg base 2 "over" (sp_over K)) (c_whole_fraction : Kl P w K mg base 1 "whole_fraction" (sp_whole_fraction K)) (c_less : Kl P w K mg base 2 "less" (sp_less K)) (c_total : Kl P w K mg base 3 "total" (sp_total K)) (c_five : Kl P w K mg base 1 "five" (sp_five K)) (c_product : Kl P w K mg base 3 "product" (sp_product K)) : Kl P w K mg base 4 "change_with" (sp_change_with K) := by
  have nd := sc_change_with.nd
  refine Kl.by_body D sc_change_with (fun vs H Q E h => ?_) (fun f cdv A outer s H vs Q E hr h => ?_)
  · obtain ⟨_, _, _, _, _, _, rfl, _⟩ := h
    rfl
  · obtain ⟨p, o, v, c, e, u, rfl, hp, ho, hc, he, hv, hu, q⟩ := h
    have hu1 := hu_of hr
    refine ⟨_, (pss_cons (ps_asg (pe_lc (own := [("a", 7)]) (g := gName 7) rfl nd (pi_tup (pe_k c_five  hr (by decide) (by rfl) (pa_cons (pv 0) pa_nil))) (blkOk_by (N := ["curve", "other", "u", "a1", "a2", "a3", "_", "a", "d1", "d2", "d3", "uu", "s", "r", "t"]) (sc := defScope s_change_with) (by decide +kernel)) (fun _ _ _ _ _ => (pg_name (i := 7) nd rfl (by first | exact Or.inl rfl | exact Or.inr rfl))) (fun _ _ _ _ _ => pts_nil) (fun _ _ _ _ _ => (pe_k c_whole_fraction  hr (by decide) (by rfl) (pa_cons (pv 7) pa_nil)))) (pg_lst rfl (pgs_cons (pg_name (i := 3) nd rfl (by first | exact Or.inl rfl | exact Or.inr rfl)) (pgs_cons (pg_name (i := 4) nd rfl (by first | exact Or.inl rfl | exact Or.inr rfl)) (pgs_cons (pg_name (i := 5) nd rfl (by first | exact Or.inl rfl | exact Or.inr rfl)) (pgs_cons (pg_name (i := 6) nd rfl (by first | exact Or.inl rfl | exact Or.inr rfl)) (pgs_cons (pg_name (i := 6) nd rfl (by first | exact Or.inl rfl | exact Or.inr rfl)) pgs_nil)))))))
      (pss_cons (ps_asg (pe_lc (own := [("a", 7)]) (g := gName 7) rfl nd (pi_tup (pe_k c_five  hr (by decide) (by rfl) (pa_cons (pv 1) pa_nil))) (blkOk_by (N := ["curve", "other", "u", "a1", "a2", "a3", "_", "a", "d1", "d2", "d3", "uu", "s", "r", "t"]) (sc := defScope s_change_with) (by decide +kernel)) (fun _ _ _ _ _ => (pg_name (i := 7) nd rfl (by first | exact Or.inl rfl | exact Or.inr rfl))) (fun _ _ _ _ _ => pts_nil) (fun _ _ _ _ _ => (pe_k c_whole_fraction  hr (by decide) (by rfl) (pa_cons (pv 7) pa_nil)))) (pg_lst rfl (pgs_cons (pg_name (i := 8) nd rfl (by first | exact Or.inl rfl | exact Or.inr rfl)) (pgs_cons (pg_name (i := 9) nd rfl (by first | exact Or.inl rfl | exact Or.inr rfl)) (pgs_cons (pg_name (i := 10) nd rfl (by first | exact Or.inl rfl | exact Or.inr rfl)) (pgs_cons (pg_name (i := 6) nd rfl (by first | exact Or.inl rfl | exact Or.inr rfl)) (pgs_cons (pg_name (i := 6) nd rfl (by first | exact Or.inl rfl | exact Or.inr rfl)) pgs_nil)))))))
      (pss_cons (ps_set (i := 11) nd rfl (by first | exact Or.inl rfl | exact Or.inr rfl) (pe_k c_times  hr (by decide) (by rfl) (pa_cons (pv 2) (pa_cons (pv 2) pa_nil))))
      (pss_cons (ps_set (i := 12) nd rfl (by first | exact Or.inl rfl | exact Or.inr rfl) (pe_k c_over  hr (by decide) (by rfl) (pa_cons (pe_k c_less  hr (by decide) (by rfl) (pa_cons (pe_k c_times  hr (by decide) (by rfl) (pa_cons (pv 2) (pa_cons (pv 8) pa_nil))) (pa_cons (pv 3) pa_nil))) (pa_cons (pe_tup (pa_cons pe_int (pa_cons pe_int pa_nil))) pa_nil))))
      (pss_cons (ps_set (i := 13) nd rfl (by first | exact Or.inl rfl | exact Or.inr rfl) (pe_k c_over  hr (by decide) (by rfl) (pa_cons (pe_k c_total  hr (by decide) (by rfl) (pa_cons (pe_lst (pa_cons (pe_k c_times  hr (by decide) (by rfl) (pa_cons (pv 11) (pa_cons (pv 9) pa_nil))) (pa_cons (pe_k c_product  hr (by decide) (by rfl) (pa_cons (pe_lst (pa_cons (pe_tup (pa_cons (pe_un un_neg pe_int) (pa_cons pe_int pa_nil))) (pa_cons (pv 4) pa_nil))) pa_nil)) (pa_cons (pe_k c_times  hr (by decide) (by rfl) (pa_cons (pv 12) (pa_cons (pv 3) pa_nil))) (pa_cons (pe_k c_times  hr (by decide) (by rfl) (pa_cons (pv 12) (pa_cons (pv 12) pa_nil))) pa_nil))))) pa_nil)) (pa_cons (pe_tup (pa_cons pe_int (pa_cons pe_int pa_nil))) pa_nil))))
      (pss_cons (ps_set (i := 14) nd rfl (by first | exact Or.inl rfl | exact Or.inr rfl) (pe_k c_over  hr (by decide) (by rfl) (pa_cons (pe_k c_less  hr (by decide) (by rfl) (pa_cons (pe_k c_less  hr (by decide) (by rfl) (pa_cons (pe_k c_product  hr (by decide) (by rfl) (pa_cons (pe_lst (pa_cons (pv 11) (pa_cons (pv 2) (pa_cons (pv 10) pa_nil)))) pa_nil)) (pa_cons (pv 5) pa_nil))) (pa_cons (pe_k c_times  hr (by decide) (by rfl) (pa_cons (pv 13) (pa_cons (pv 3) pa_nil))) pa_nil))) (pa_cons (pe_tup (pa_cons pe_int (pa_cons pe_int pa_nil))) pa_nil))))
      (pss_one (ps_ret (pe_tup (pa_cons (pv 2) (pa_cons (pv 13) (pa_cons (pv 12) (pa_cons (pv 14) pa_nil))))))))))))), ?_⟩
    refine ⟨.ref p, rfl, p, c, rfl, hp, p, rfl, ⟨_, hp⟩, fun D1 hD1 => ?_⟩
    refine lc_tup (K := K) (a := p) (xs := c.tup) (fun i H4 => Same H H4 ∧ FrD H4 D1 c.ints i) ⟨Same.new hD1, FrD.new⟩ (fun i H4 _ z => Same.tup z.1 hp) (fun i x H4 hi z => ?_) (fun H1 z => ?_)
    · obtain ⟨n, rfl, hn⟩ : ∃ n, x = .int n ∧ c.ints[i]? = some n := by
        rw [Cv.tup_ints, List.getElem?_map] at hi
        cases e : c.ints[i]? with
        | none =>
          rw [e] at hi
          cases hi
        | some y =>
          rw [e] at hi
          exact ⟨y, (Option.some.inj hi).symm, rfl⟩
      have hi5 : i < 5 := (List.getElem?_eq_some_iff.mp hn).1
      refine ⟨rfl, _, rfl, n, rfl, fun t nt => ?_⟩
      obtain ⟨acc, h1, h2, h3⟩ := FrD.push z.2 hn nt (by omega)
      exact ⟨acc, h1, h2, Same.put (Same.put z.1 (z.1.free nt)) hD1, h3⟩
    obtain ⟨s1, hF1⟩ := z
    obtain ⟨pa1, pa2, pa3, pa4, pa6, gD1, hpa1, hpa2, hpa3, hpa4, hpa6⟩ := hF1.five
    refine ⟨D1, _, rfl, lst_of gD1, rfl, _, _, rfl, _, _, rfl, _, _, rfl, _, _, rfl, _, _, rfl, rfl, ?_⟩
    have ho1 := Same.tup s1 ho
    have hv1 := Same.tup s1 hv
    first | refine sigN [some (.ref p), some (.ref o), some (.ref v), some (.ref pa1), some (.ref pa2), some (.ref pa3), some (.ref pa6), none, none, none, none, none, none, none, none] (by rfl) ?_ | refine sig [some (.ref p), some (.ref o), some (.ref v), some (.ref pa1), some (.ref pa2), some (.ref pa3), some (.ref pa6), none, none, none, none, none, none, none, none] (by rfl) ?_
    refine ⟨.ref o, rfl, o, e, rfl, ho1, o, rfl, ⟨_, ho1⟩, fun D2 hD2 => ?_⟩
    refine lc_tup (K := K) (a := o) (xs := e.tup) (fun i H4 => Same H1 H4 ∧ FrD H4 D2 e.ints i) ⟨Same.new hD2, FrD.new⟩ (fun i H4 _ z => Same.tup z.1 ho1) (fun i x H4 hi z => ?_) (fun H2 z => ?_)
    · obtain ⟨n, rfl, hn⟩ : ∃ n, x = .int n ∧ e.ints[i]? = some n := by
        rw [Cv.tup_ints, List.getElem?_map] at hi
        cases e : e.ints[i]? with
        | none =>
          rw [e] at hi
          cases hi
        | some y =>
          rw [e] at hi
          exact ⟨y, (Option.some.inj hi).symm, rfl⟩
      have hi5 : i < 5 := (List.getElem?_eq_some_iff.mp hn).1
      refine ⟨rfl, _, rfl, n, rfl, fun t nt => ?_⟩
      obtain ⟨acc, h1, h2, h3⟩ := FrD.push z.2 hn nt (by omega)
      exact ⟨acc, h1, h2, Same.put (Same.put z.1 (z.1.free nt)) hD2, h3⟩
    obtain ⟨s2, hF2⟩ := z
    obtain ⟨pd1, pd2, pd3, pd4, pd6, gD2, hpd1, hpd2, hpd3, hpd4, hpd6⟩ := hF2.five
    refine ⟨D2, _, rfl, lst_of gD2, rfl, _, _, rfl, _, _, rfl, _, _, rfl, _, _, rfl, _, _, rfl, rfl, ?_⟩
    first | refine sigN [some (.ref p), some (.ref o), some (.ref v), some (.ref pa1), some (.ref pa2), some (.ref pa3), some (.ref pd6), none, some (.ref pd1), some (.ref pd2), some (.ref pd3), none, none, none, none] (by rfl) ?_ | refine sig [some (.ref p), some (.ref o), some (.ref v), some (.ref pa1), some (.ref pa2), some (.ref pa3), some (.ref pd6), none, some (.ref pd1), some (.ref pd2), some (.ref pd3), none, none, none, none] (by rfl) ?_
    have sA := s1.trans s2
    have E0 : FrE K H2 [(v, u, 160), (pa1, (c.a1 : Rat), 12), (pa2, (c.a2 : Rat), 12), (pa3, (c.a3 : Rat), 12), (pd1, (e.a1 : Rat), 12), (pd2, (e.a2 : Rat), 12), (pd3, (e.a3 : Rat), 12)] :=
      FrE.add (FrE.add (FrE.add (FrE.add (FrE.add (FrE.add (FrE.add FrE.nil (tup_of hpd3) (rb12 he.h3)) (tup_of hpd2) (rb12 he.h2)) (tup_of hpd1) (rb12 he.h1)) (tup_of (s2 _ _ hpa3)) (rb12 hc.h3)) (tup_of (s2 _ _ hpa2)) (rb12 hc.h2)) (tup_of (s2 _ _ hpa1)) (rb12 hc.h1)) (Same.tup s2 hv1) hu
    clear s1 s2 hpa1 hpa2 hpa3 hpa4 hpa6 hpd1 hpd2 hpd3 hpd4 hpd6 gD1 gD2 hF1 hF2 ho1 hv1 hD1 hD2
    refine ⟨.ref v, rfl, .ref v, rfl, ?_⟩
    refine ⟨v, v, _, _, rfl, E0.get (by walk_at "mm"), E0.get (by walk_at "mm"), (E0.rb (p := v) (by walk_at "mm")).up (by decide), (E0.rb (p := v) (by walk_at "mm")).up (by decide), trivial, fun t1 nt1 => ?_⟩
    obtain ⟨H3, eH_, s3, E3⟩ := stepE E0 nt1 (RB.mul (E0.rb (p := v) (by walk_at "mm")) (E0.rb (p := v) (by walk_at "mm")))
    rw [eH_]
    clear eH_
    first | refine sigN [some (.ref p), some (.ref o), some (.ref v), some (.ref pa1), some (.ref pa2), some (.ref pa3), some (.ref pd6), none, some (.ref pd1), some (.ref pd2), some (.ref pd3), some (.ref t1), none, none, none] (by rfl) ?_ | refine sig [some (.ref p), some (.ref o), some (.ref v), some (.ref pa1), some (.ref pa2), some (.ref pa3), some (.ref pd6), none, some (.ref pd1), some (.ref pd2), some (.ref pd3), some (.ref t1), none, none, none] (by rfl) ?_
    refine ⟨.ref v, rfl, .ref pd1, rfl, ?_⟩
    refine ⟨v, pd1, _, _, rfl, E3.get (by walk_at "mm"), E3.get (by walk_at "mm"), (E3.rb (p := v) (by walk_at "mm")).up (by decide), (E3.rb (p := pd1) (by walk_at "mm")).up (by decide), trivial, fun t2 nt2 => ?_⟩
    obtain ⟨H4, eH_, s4, E4⟩ := stepE E3 nt2 (RB.mul (E3.rb (p := v) (by walk_at "mm")) (E3.rb (p := pd1) (by walk_at "mm")))
    rw [eH_]
    clear eH_
    refine ⟨.ref pa1, rfl, ?_⟩
    refine ⟨t2, pa1, _, _, rfl, E4.get (by walk_at "mm"), E4.get (by walk_at "mm"), (E4.rb (p := t2) (by walk_at "mm")).up (by decide), (E4.rb (p := pa1) (by walk_at "mm")).up (by decide), trivial, fun t3 nt3 => ?_⟩
    obtain ⟨H5, eH_, s5, E5⟩ := stepE E4 nt3 (RB.sub (E4.rb (p := t2) (by walk_at "mm")) (E4.rb (p := pa1) (by walk_at "mm")))
    rw [eH_]
    clear eH_
    refine ⟨(by show 2 ≤ sizeLine; decide), fun t4 nt4 => ?_⟩
    obtain ⟨H6, eH_, s6, E6⟩ := litE E5 nt4 fq_2 rb_two
    rw [eH_]
    clear eH_
    refine ⟨t3, t4, _, _, rfl, E6.get (by walk_at "mm"), E6.get (by walk_at "mm"), (E6.rb (p := t3) (by walk_at "mm")).up (by decide), (E6.rb (p := t4) (by walk_at "mm")).up (by decide), two_ne, fun t5 nt5 => ?_⟩
    obtain ⟨H7, eH_, s7, E7⟩ := stepE E6 nt5 (RB.div two_ne (E6.rb (p := t3) (by walk_at "mm")) (E6.rb (p := t4) (by walk_at "mm")))
    rw [eH_]
    clear eH_
    have E8 := E7.re (b := cS c e u) rfl (cS_B hc he hu)
    first | refine sigN [some (.ref p), some (.ref o), some (.ref v), some (.ref pa1), some (.ref pa2), some (.ref pa3), some (.ref pd6), none, some (.ref pd1), some (.ref pd2), some (.ref pd3), some (.ref t1), some (.ref t5), none, none] (by rfl) ?_ | refine sig [some (.ref p), some (.ref o), some (.ref v), some (.ref pa1), some (.ref pa2), some (.ref pa3), some (.ref pd6), none, some (.ref pd1), some (.ref pd2), some (.ref pd3), some (.ref t1), some (.ref t5), none, none] (by rfl) ?_
    refine ⟨.ref t1, rfl, .ref pd2, rfl, ?_⟩
    refine ⟨t1, pd2, _, _, rfl, E8.get (by walk_at "mm"), E8.get (by walk_at "mm"), (E8.rb (p := t1) (by walk_at "mm")).up (by decide), (E8.rb (p := pd2) (by walk_at "mm")).up (by decide), trivial, fun t6 nt6 => ?_⟩
    obtain ⟨H8, eH_, s8, E9⟩ := stepE E8 nt6 (RB.mul (E8.rb (p := t1) (by walk_at "mm")) (E8.rb (p := pd2) (by walk_at "mm")))
    rw [eH_]
    clear eH_
    refine ⟨_, rfl, ?_⟩
    refine ⟨(by show 2 ≤ sizeLine; decide), fun t7 nt7 => ?_⟩
    obtain ⟨H9, eH_, s9, E10⟩ := litE E9 nt7 fq_m1 rb_m1
    rw [eH_]
    clear eH_
    refine ⟨.ref pa2, rfl, (by show 2 ≤ sizeLine; decide), fun l1 nl1 => ?_⟩
    have E11 := E10.same (Same.new (o := .lst [.ref t7, .ref pa2]) nl1)
    refine ⟨l1, _, 12, rfl, lst_of upd_same, FrL.cons E11 (p := t7) (by walk_at "mm") (by decide) (FrL.cons E11 (p := pa2) (by walk_at "mm") (by decide) FrL.nil), (by show 2 * (12 + 1) ≤ 3900; decide), fun Ha t8 sa nt8 ht8 hb8 => ?_⟩
    have E12 := ((E11.same sa).add (tup_of ht8) hb8).re (b := -(c.a2 : Rat)) (by show 1 * (-1) * (c.a2 : Rat) = _; grind) (rb12 hc.h2).neg
    have sA1 := (Same.new (o := .lst [.ref t7, .ref pa2]) nl1).trans sa
    refine ⟨.ref t5, rfl, .ref pa1, rfl, ?_⟩
    refine ⟨t5, pa1, _, _, rfl, E12.get (by walk_at "mm"), E12.get (by walk_at "mm"), (E12.rb (p := t5) (by walk_at "mm")).up (by decide), (E12.rb (p := pa1) (by walk_at "mm")).up (by decide), trivial, fun t9 nt9 => ?_⟩
    obtain ⟨Hb, eH_, sb, E13⟩ := stepE E12 nt9 (RB.mul (E12.rb (p := t5) (by walk_at "mm")) (E12.rb (p := pa1) (by walk_at "mm")))
    rw [eH_]
    clear eH_
    refine ⟨.ref t5, rfl, .ref t5, rfl, ?_⟩
    refine ⟨t5, t5, _, _, rfl, E13.get (by walk_at "mm"), E13.get (by walk_at "mm"), (E13.rb (p := t5) (by walk_at "mm")).up (by decide), (E13.rb (p := t5) (by walk_at "mm")).up (by decide), trivial, fun t10 nt10 => ?_⟩
    obtain ⟨Hc, eH_, sc, E14⟩ := stepE E13 nt10 (RB.mul (E13.rb (p := t5) (by walk_at "mm")) (E13.rb (p := t5) (by walk_at "mm")))
    rw [eH_]
    clear eH_
    refine ⟨(by show 4 ≤ sizeLine; decide), fun l2 nl2 => ?_⟩
    have E15 := E14.same (Same.new (o := .lst [.ref t6, .ref t8, .ref t9, .ref t10]) nl2)
    refine ⟨l2, _, 380, rfl, lst_of upd_same, FrL.cons E15 (p := t6) (by walk_at "mm") (by decide) (FrL.cons E15 (p := t8) (by walk_at "mm") (by decide) (FrL.cons E15 (p := t9) (by walk_at "mm") (by decide) (FrL.cons E15 (p := t10) (by walk_at "mm") (by decide) FrL.nil))), (by show 4 * (380 + 1) ≤ 3900; decide), fun Hd t11 sd nt11 ht11 hb11 => ?_⟩
    have E16 := (E15.same sd).add (m := 1525) (tup_of ht11) hb11
    have sA2 := (Same.new (o := .lst [.ref t6, .ref t8, .ref t9, .ref t10]) nl2).trans sd
    refine ⟨(by show 2 ≤ sizeLine; decide), fun t12 nt12 => ?_⟩
    obtain ⟨He, eH_, se, E17⟩ := litE E16 nt12 fq_3 rb_three
    rw [eH_]
    clear eH_
    refine ⟨t11, t12, _, _, rfl, E17.get (by walk_at "mm"), E17.get (by walk_at "mm"), (E17.rb (p := t11) (by walk_at "mm")).up (by decide), (E17.rb (p := t12) (by walk_at "mm")).up (by decide), three_ne, fun t13 nt13 => ?_⟩
    obtain ⟨Hf, eH_, sf, E18⟩ := stepE E17 nt13 (RB.div three_ne (E17.rb (p := t11) (by walk_at "mm")) (E17.rb (p := t12) (by walk_at "mm")))
    rw [eH_]
    clear eH_
    have E19 := E18.re (b := cR c e u) (by
      show (0 + u * u * (e.a2 : Rat) + -(c.a2 : Rat) + cS c e u * (c.a1 : Rat) + cS c e u * cS c e u) / 3 = _
      unfold cR
      grind) (cR_B hc he hu)
    first | refine sigN [some (.ref p), some (.ref o), some (.ref v), some (.ref pa1), some (.ref pa2), some (.ref pa3), some (.ref pd6), none, some (.ref pd1), some (.ref pd2), some (.ref pd3), some (.ref t1), some (.ref t5), some (.ref t13), none] (by rfl) ?_ | refine sig [some (.ref p), some (.ref o), some (.ref v), some (.ref pa1), some (.ref pa2), some (.ref pa3), some (.ref pd6), none, some (.ref pd1), some (.ref pd2), some (.ref pd3), some (.ref t1), some (.ref t5), some (.ref t13), none] (by rfl) ?_
    refine ⟨.ref t1, rfl, .ref v, rfl, .ref pd3, rfl, (by show 3 ≤ sizeLine; decide), fun l3 nl3 => ?_⟩
    have E20 := E19.same (Same.new (o := .lst [.ref t1, .ref v, .ref pd3]) nl3)
    refine ⟨l3, _, 320, rfl, lst_of upd_same, FrL.cons E20 (p := t1) (by walk_at "mm") (by decide) (FrL.cons E20 (p := v) (by walk_at "mm") (by decide) (FrL.cons E20 (p := pd3) (by walk_at "mm") (by decide) FrL.nil)), (by show 3 * (320 + 1) ≤ 3900; decide), fun Hg t14 sg nt14 ht14 hb14 => ?_⟩
    have E21 := (E20.same sg).add (m := 964) (tup_of ht14) hb14
    have sA3 := (Same.new (o := .lst [.ref t1, .ref v, .ref pd3]) nl3).trans sg
    refine ⟨.ref pa3, rfl, ?_⟩
    refine ⟨t14, pa3, _, _, rfl, E21.get (by walk_at "mm"), E21.get (by walk_at "mm"), (E21.rb (p := t14) (by walk_at "mm")).up (by decide), (E21.rb (p := pa3) (by walk_at "mm")).up (by decide), trivial, fun t15 nt15 => ?_⟩
    obtain ⟨Hh, eH_, sh, E22⟩ := stepE E21 nt15 (RB.sub (E21.rb (p := t14) (by walk_at "mm")) (E21.rb (p := pa3) (by walk_at "mm")))
    rw [eH_]
    clear eH_
    refine ⟨.ref t13, rfl, .ref pa1, rfl, ?_⟩
    refine ⟨t13, pa1, _, _, rfl, E22.get (by walk_at "mm"), E22.get (by walk_at "mm"), (E22.rb (p := t13) (by walk_at "mm")).up (by decide), (E22.rb (p := pa1) (by walk_at "mm")).up (by decide), trivial, fun t16 nt16 => ?_⟩
    obtain ⟨Hi, eH_, si, E23⟩ := stepE E22 nt16 (RB.mul (E22.rb (p := t13) (by walk_at "mm")) (E22.rb (p := pa1) (by walk_at "mm")))
    rw [eH_]
    clear eH_
    refine ⟨t15, t16, _, _, rfl, E23.get (by walk_at "mm"), E23.get (by walk_at "mm"), (E23.rb (p := t15) (by walk_at "mm")).up (by decide), (E23.rb (p := t16) (by walk_at "mm")).up (by decide), trivial, fun t17 nt17 => ?_⟩
    obtain ⟨Hj, eH_, sj, E24⟩ := stepE E23 nt17 (RB.sub (E23.rb (p := t15) (by walk_at "mm")) (E23.rb (p := t16) (by walk_at "mm")))
    rw [eH_]
    clear eH_
    refine ⟨(by show 2 ≤ sizeLine; decide), fun t18 nt18 => ?_⟩
    obtain ⟨Hk, eH_, sk, E25⟩ := litE E24 nt18 fq_2 rb_two
    rw [eH_]
    clear eH_
    refine ⟨t17, t18, _, _, rfl, E25.get (by walk_at "mm"), E25.get (by walk_at "mm"), (E25.rb (p := t17) (by walk_at "mm")).up (by decide), (E25.rb (p := t18) (by walk_at "mm")).up (by decide), two_ne, fun t19 nt19 => ?_⟩
    obtain ⟨Hl, eH_, sl, E26⟩ := stepE E25 nt19 (RB.div two_ne (E25.rb (p := t17) (by walk_at "mm")) (E25.rb (p := t18) (by walk_at "mm")))
    rw [eH_]
    clear eH_
    have E27 := E26.re (b := cT c e u) (by
      show (1 * (u * u) * u * (e.a3 : Rat) - (c.a3 : Rat) - cR c e u * (c.a1 : Rat)) / 2 = _
      unfold cT
      grind) (cT_B hc he hu)
    first | refine sigN [some (.ref p), some (.ref o), some (.ref v), some (.ref pa1), some (.ref pa2), some (.ref pa3), some (.ref pd6), none, some (.ref pd1), some (.ref pd2), some (.ref pd3), some (.ref t1), some (.ref t5), some (.ref t13), some (.ref t19)] (by rfl) ?_ | refine sig [some (.ref p), some (.ref o), some (.ref v), some (.ref pa1), some (.ref pa2), some (.ref pa3), some (.ref pd6), none, some (.ref pd1), some (.ref pd2), some (.ref pd3), some (.ref t1), some (.ref t5), some (.ref t13), some (.ref t19)] (by rfl) ?_
    refine ⟨.ref v, rfl, .ref t13, rfl, .ref t5, rfl, .ref t19, rfl, (by show 4 ≤ sizeLine; decide), fun t20 n20 => ?_⟩
    have sZ := Same.new (H := Hl) (p := t20) (o := .tup [.ref v, .ref t13, .ref t5, .ref t19]) n20
    have E28 := E27.same sZ
    refine q _ t20 t13 t5 t19 (sA.trans (s3.trans (s4.trans (s5.trans (s6.trans (s7.trans (s8.trans (s9.trans (sA1.trans (sb.trans (sc.trans (sA2.trans (se.trans (sf.trans (sA3.trans (sh.trans (si.trans (sj.trans (sk.trans (sl.trans sZ)))))))))))))))))))) upd_same (E28.get (by walk_at "mm")) (E28.get (by walk_at "mm")) (E28.get (by walk_at "mm"))
end
end K13
set_option Elab.async false
set_option linter.all false
set_option maxRecDepth 100000
set_option maxHeartbeats 4000000
namespace K13
open PySem PySem.Spec PyProof.Rows L2 Gd QM K08M
/-- the turns of a walk over a range within a block of two walks -/
theorem turns {lo : Int} {n : Nat} {Hs : Hp} {Qd : Hp → Prop} {Bd : V → Hp → (Hp → Prop) → Prop} (Pv : Nat → Hp → Prop) (h0 : Pv 0 Hs) (hs : ∀ i H, i < n → Pv i H → Bd (.int (lo + i)) H (Pv (i + 1))) (hd : ∀ H, Pv n H → Qd H) :
    ∃ W : Nat → Nat → Hp → Prop, (∃ m, W 0 m Hs) ∧ ∀ i m H, W i m H →
      ((Itr lo n).stop i H ∧ Qd H) ∨ ((Itr lo n).go i H ∧ ∃ Nx : Hp → Prop, (∀ H', Nx H' → ∃ m', m' < m ∧ W (i + 1) m' H') ∧ ∀ x H', (Itr lo n).yld i H x H' → Bd x H' Nx) := by
  refine ⟨fun i m H => m = n - i ∧ i ≤ n ∧ Pv i H, ⟨n, by simp, Nat.zero_le _, h0⟩, ?_⟩
  rintro i m H ⟨rfl, hi, p⟩
  by_cases hlt : i < n
  · refine .inr ⟨hlt, Pv (i + 1), fun H' p' => ⟨n - (i + 1), by omega, rfl, hlt, p'⟩, fun x H' y => ?_⟩
    obtain ⟨e, y⟩ := y
    subst e y
    exact hs i _ hlt p
  · have e : i = n := by omega
    subst e
    exact .inl ⟨Nat.le_refl _, hd H p⟩
/-- the numbers that are tried -/
def rowL (i b : Nat) : List Int := (List.range b).map fun j => ((2 ^ i * 3 ^ j : Nat) : Int)
def prodL (a b : Nat) : List Int := (List.range a).flatMap fun i => rowL i b
theorem prodL_succ (a b : Nat) : prodL (a + 1) b = prodL a b ++ rowL a b := by
  unfold prodL
  rw [List.range_succ, List.flatMap_append]
  simp
theorem rowL_succ (i b : Nat) : rowL i (b + 1) = rowL i b ++ [((2 ^ i * 3 ^ b : Nat) : Int)] := by
  unfold rowL
  rw [List.range_succ, List.map_append]
  rfl
theorem rowL_len (i b : Nat) : (rowL i b).length = b := by
  unfold rowL
  rw [List.length_map, List.length_range]
theorem prodL_len (a b : Nat) : (prodL a b).length = a * b := by
  induction a with
  | zero => simp [prodL]
  | succ a ih => rw [prodL_succ, List.length_append, ih, rowL_len, Nat.add_mul, Nat.one_mul]
theorem mem_prodL {a b : Nat} {x : Int} : x ∈ prodL a b ↔ ∃ i j, i < a ∧ j < b ∧ x = ((2 ^ i * 3 ^ j : Nat) : Int) := by
  unfold prodL rowL
  rw [List.mem_flatMap]
  constructor
  · rintro ⟨i, hi, h⟩
    obtain ⟨j, hj, rfl⟩ := List.mem_map.mp h
    exact ⟨i, j, List.mem_range.mp hi, List.mem_range.mp hj, rfl⟩
  · rintro ⟨i, j, hi, hj, rfl⟩
    exact ⟨i, List.mem_range.mpr hi, List.mem_map.mpr ⟨j, List.mem_range.mpr hj, rfl⟩⟩
theorem pw4 (y X : Int) : y ^ 4 * X = y * y * y * y * X := by grind
theorem pw6 (y X : Int) : y ^ 6 * X = y * y * y * y * y * y * X := by grind
theorem isp_curve {x y : Int} : IsP x y ↔ ∃ d, curveOf x y = some d := by
  constructor
  · rintro ⟨d, hr, h4, h6, hd⟩
    exact ⟨d, by rw [← h4, ← h6]; exact curve_rc hr hd⟩
  · rintro ⟨d, h⟩
    obtain ⟨h1, h2⟩ := curve_some h
    exact ⟨d, h1, h2⟩
theorem pw_B {p i : Nat} (hp : p ≤ 3) (h : i ≤ 7) : B 12 ((p : Int) ^ (0 + (i : Int)).toNat) := by
  have e : (0 + (i : Int)).toNat = i := by omega
  rw [e]
  unfold B
  rw [Int.natAbs_pow, Int.natAbs_natCast]
  have h1 : p ^ i ≤ 3 ^ i := Nat.pow_le_pow_left hp i
  have h2 : 3 ^ i ≤ 3 ^ 7 := Nat.pow_le_pow_right (by decide) h
  omega
theorem pow_le7 {p a : Nat} (hp : 2 ≤ p) (h : p ^ a ≤ 177) : a ≤ 7 := by
  rcases Nat.lt_or_ge 7 a with z | z
  · exfalso
    have h1 : 2 ^ 8 ≤ 2 ^ a := Nat.pow_le_pow_right (by decide) z
    have h2 : 2 ^ a ≤ p ^ a := Nat.pow_le_pow_left hp a
    omega
  · exact z
theorem most_le {c4 c6 A C : Int} {u : Nat} (e4 : c4 = (u : Int) ^ 4 * A) (e6 : c6 = (u : Int) ^ 6 * C) (hz : ¬ (c4 = 0 ∧ c6 = 0)) (h4 : c4.natAbs ≤ 1000000000) (h6 : c6.natAbs ≤ 10000000000000) : u ≤ 177 := by
  rcases Nat.lt_or_ge 177 u with z | z
  · exfalso
    have k4 : 178 ^ 4 ≤ u ^ 4 := Nat.pow_le_pow_left z 4
    have k6 : 178 ^ 6 ≤ u ^ 6 := Nat.pow_le_pow_left z 6
    have n4 : c4.natAbs = u ^ 4 * A.natAbs := by rw [e4, Int.natAbs_mul, Int.natAbs_pow, Int.natAbs_natCast]
    have n6 : c6.natAbs = u ^ 6 * C.natAbs := by rw [e6, Int.natAbs_mul, Int.natAbs_pow, Int.natAbs_natCast]
    by_cases A0 : A.natAbs = 0
    · by_cases C0 : C.natAbs = 0
      · rw [A0, Nat.mul_zero] at n4
        rw [C0, Nat.mul_zero] at n6
        omega
      · have := Nat.le_mul_of_pos_right (u ^ 6) (Nat.pos_of_ne_zero C0)
        omega
    · have := Nat.le_mul_of_pos_right (u ^ 4) (Nat.pos_of_ne_zero A0)
      omega
  · exact z
section
variable {P : Program} {w : World} {K : PySem.W.Frag} {mg : Str → Option Value} {base : Heap}
/-! ### the least model and its scale -/
/-- the greatest scale and the curve there -/
structure Lst (c4 c6 : Int) (v : Nat) (d : Cv) : Prop where
  v0 : 0 < v
  all : ∀ u, Lets c4 c6 u ↔ 0 < u ∧ u ∣ v
  at_ : ∃ x y, c4 = (v : Int) ^ 4 * x ∧ c6 = (v : Int) ^ 6 * y ∧ curveOf x y = some d
def sp_least_and_scale (K : PySem.W.Frag) : Sp := fun vs H Q _ => ∃ (p : Addr) (c : Cv), vs = [.ref p] ∧ SqT K H p c.tup ∧ c.Md ∧ c.disc ≠ 0 ∧ c.c4.natAbs ≤ 1000000000 ∧ c.c6.natAbs ≤ 10000000000000 ∧
  ∀ H' t l v d, Same H H' → H' t = some (.tup [.ref l, .int ((v : Nat) : Int)]) → H' l = some (.tup (Cv.tup d)) → Lst c.c4 c.c6 v d → Q (.ref t) H'
abbrev s_least_and_scale : Stmt := topS 49
theorem sc_least_and_scale : FnScope ["curve", "_", "c4", "c6", "most", "twos", "threes", "left_out", "i", "j", "u", "fourth", "least"] ["curve"] (defScope s_least_and_scale) := ⟨rfl, rfl, rfl, by decide +kernel, rfl, by decide +kernel, by decide +kernel⟩
theorem k_least_and_scale (T : Tx K mg) (D : Df K mg "least_and_scale" s_least_and_scale ["curve"]) (c_numbers_of : Kl P w K mg base 2 "numbers_of" (sp_numbers_of K)) (c_greatest_scale : Kl P w K mg base 8 "greatest_scale" (sp_greatest_scale K)) (c_valuation : Kl P w K mg base 1 "valuation" (sp_valuation K)) (c_curve_of : Kl P w K mg base 3 "curve_of" (sp_curve_of K)) (c_power : Kl P w K mg base 1 "power" (sp_power K)) : Kl P w K mg base 9 "least_and_scale" (sp_least_and_scale K) := by
  have nd := sc_least_and_scale.nd
  refine Kl.by_body D sc_least_and_scale (fun vs H Q E h => ?_) (fun f cdv A outer s H vs Q E hr h => ?_)
  · obtain ⟨_, _, rfl, _⟩ := h
    rfl
  · obtain ⟨p, c, rfl, hx, hm, hd, h4, h6, q⟩ := h
    have hu1 := hu_of hr
    refine ⟨_, (pss_cons (ps_asg (pe_k c_numbers_of  hr (by decide) (by rfl) (pa_cons (pv 0) pa_nil)) (pg_tup rfl (pgs_cons (pg_name (i := 1) nd rfl (by first | exact Or.inl rfl | exact Or.inr rfl)) (pgs_cons (pg_name (i := 1) nd rfl (by first | exact Or.inl rfl | exact Or.inr rfl)) (pgs_cons (pg_name (i := 1) nd rfl (by first | exact Or.inl rfl | exact Or.inr rfl)) (pgs_cons (pg_name (i := 1) nd rfl (by first | exact Or.inl rfl | exact Or.inr rfl)) (pgs_cons (pg_name (i := 2) nd rfl (by first | exact Or.inl rfl | exact Or.inr rfl)) (pgs_cons (pg_name (i := 3) nd rfl (by first | exact Or.inl rfl | exact Or.inr rfl)) (pgs_cons (pg_name (i := 1) nd rfl (by first | exact Or.inl rfl | exact Or.inr rfl)) pgs_nil)))))))))
      (pss_cons (ps_set (i := 4) nd rfl (by first | exact Or.inl rfl | exact Or.inr rfl) (pe_k c_greatest_scale  hr (by decide) (by rfl) (pa_cons (pv 2) (pa_cons (pv 3) pa_nil))))
      (pss_cons (ps_asg (pe_tup (pa_cons (pe_k c_valuation  hr (by decide) (by rfl) (pa_cons (pv 4) (pa_cons pe_int pa_nil))) (pa_cons (pe_k c_valuation  hr (by decide) (by rfl) (pa_cons (pv 4) (pa_cons pe_int pa_nil))) pa_nil))) (pg_tup rfl (pgs_cons (pg_name (i := 5) nd rfl (by first | exact Or.inl rfl | exact Or.inr rfl)) (pgs_cons (pg_name (i := 6) nd rfl (by first | exact Or.inl rfl | exact Or.inr rfl)) pgs_nil))))
      (pss_one (ps_for PassesOwn.never rfl (pi_list (pe_callB cr_sortedI (by rfl) T.sorted (by decide +kernel) (pa_cons (pe_lc2 (own := [("i", 8), ("j", 9)]) (vs1 := [9]) (g := gName 8) (g1 := gName 9) rfl nd (pi_range1 (by rfl) T.range (pa_cons (pe_op op_add (pv 5) pe_int) pa_nil)) (blkOk_by (N := ["curve", "_", "c4", "c6", "most", "twos", "threes", "left_out", "i", "j", "u", "fourth", "least"]) (sc := defScope s_least_and_scale) (by decide +kernel)) (by decide) (fun _ _ _ _ _ => (pg_name (i := 8) nd rfl (by first | exact Or.inl rfl | exact Or.inr rfl))) (fun _ _ _ _ _ => pts_nil) (fun _ _ _ _ _ => (pi_range1 (by rfl) T.range (pa_cons (pe_op op_add (pv 6) pe_int) pa_nil))) (fun _ _ _ _ _ => (pg_name (i := 9) nd rfl (by first | exact Or.inl rfl | exact Or.inr rfl))) (fun _ _ _ _ _ => pts_nil) (fun _ _ _ _ _ => (pe_op op_mulW (pe_k c_power  hr (by decide) (by rfl) (pa_cons pe_int (pa_cons (pv 8) pa_nil))) (pe_k c_power  hr (by decide) (by rfl) (pa_cons pe_int (pa_cons (pv 9) pa_nil)))))) pa_nil))) (pg_name (i := 7) nd rfl (by first | exact Or.inl rfl | exact Or.inr rfl)) (pss_cons (ps_set (i := 10) nd rfl (by first | exact Or.inl rfl | exact Or.inr rfl) (pe_op op_fdivAny (pv 4) (pv 7)))
      (pss_cons (ps_set (i := 11) nd rfl (by first | exact Or.inl rfl | exact Or.inr rfl) (pe_op op_mulW (pe_op op_mulW (pe_op op_mulW (pv 10) (pv 10)) (pv 10)) (pv 10)))
      (pss_cons (ps_set (i := 12) nd rfl (by first | exact Or.inl rfl | exact Or.inr rfl) (pe_k c_curve_of  hr (by decide) (by rfl) (pa_cons (pe_op op_fdivAny (pv 2) (pv 11)) (pa_cons (pe_op op_fdivAny (pv 3) (pe_op op_mulW (pe_op op_mulW (pv 11) (pv 10)) (pv 10))) pa_nil))))
      (pss_one (ps_if (pt_cmpR op_notN (pv 12) pe_non (nomark _)) (pss_one (ps_ret (pe_tup (pa_cons (pv 12) (pa_cons (pv 10) pa_nil))))) pss_nil)))))))))), ?_⟩
    have hz : ¬ (c.c4 = 0 ∧ c.c6 = 0) := by
      rintro ⟨z1, z2⟩
      have := disc_eq c
      rw [z1, z2] at this
      omega
    have hp1 : Lets c.c4 c.c6 1 := ⟨by decide, c.c4, c.c6, by simp, by simp, red c, red_rc c, red_c4 c, red_c6 c, red_d hd⟩
    obtain ⟨v, lv, hv⟩ := lets_of hz hp1
    have pb : PB c.c4 c.c6 := ⟨hz, by omega, by omega⟩
    refine ⟨.ref p, rfl, p, c, rfl, hx, hm, fun t nt => ?_⟩
    have s1 := Same.new (H := H) (p := t) (o := .tup c.nums) nt
    have g1 : upd H t (.tup c.nums) t = some (.tup c.nums) := upd_same
    generalize upd H t (.tup c.nums) = H1 at s1 g1 ⊢
    refine ⟨t, _, rfl, tup_of g1, rfl, _, _, rfl, _, _, rfl, _, _, rfl, _, _, rfl, _, _, rfl, _, _, rfl, _, _, rfl, rfl, ?_⟩
    first | refine sigN [some (.ref p), some (.int (c.disc)), some (.int (c.c4)), some (.int (c.c6)), none, none, none, none, none, none, none, none, none] (by rfl) ?_ | refine sig [some (.ref p), some (.int (c.disc)), some (.int (c.c4)), some (.int (c.c6)), none, none, none, none, none, none, none, none, none] (by rfl) ?_
    refine ⟨_, rfl, _, rfl, c.c4, c.c6, rfl, pb, fun u A C H2 s2 u0 e4 e6 sh => ?_⟩
    first | refine sigN [some (.ref p), some (.int (c.disc)), some (.int (c.c4)), some (.int (c.c6)), some (.int ((u : Int))), none, none, none, none, none, none, none, none] (by rfl) ?_ | refine sig [some (.ref p), some (.int (c.disc)), some (.int (c.c4)), some (.int (c.c6)), some (.int ((u : Int))), none, none, none, none, none, none, none, none] (by rfl) ?_
    obtain ⟨a, m1, hu, m2, m10⟩ := val_is (p := 2) (by decide) u0
    obtain ⟨b, m, hm1, m3, m0⟩ := val_is (p := 3) (by decide) m10
    have m2' : ¬ 2 ∣ m := fun d => m2 (by rw [hm1]; exact Nat.dvd_trans d (Nat.dvd_mul_left m (3 ^ b)))
    have hu3 : u = 3 ^ b * (2 ^ a * m) := by rw [hu, hm1]; ac_rfl
    have m3' : ¬ 3 ∣ 2 ^ a * m := fun d => m3 ((Nat.Coprime.pow_right a (show Nat.Coprime 3 2 by decide)).dvd_of_dvd_mul_left d)
    obtain ⟨i0, j0, hi0, hj0, huv⟩ := most_is hp1 hz u0 e4 e6 sh hv lv.1 (by rw [hu, hm1]) m2' m3
    refine ⟨_, rfl, 2, a, m1, by rw [← hu]; rfl, by decide, by decide, m2, _, rfl, 3, b, 2 ^ a * m, by rw [← hu3]; rfl, by decide, by decide, m3', (by show 2 ≤ sizeLine; decide), fun t2 nt2 => ?_⟩
    have s3 := Same.new (H := H2) (p := t2) (o := .tup [.int (a : Int), .int (b : Int)]) nt2
    have g3 : upd H2 t2 (.tup [.int (a : Int), .int (b : Int)]) t2 = some (.tup [.int (a : Int), .int (b : Int)]) := upd_same
    generalize upd H2 t2 (.tup [.int (a : Int), .int (b : Int)]) = H3 at s3 g3 ⊢
    refine ⟨t2, _, rfl, tup_of g3, rfl, _, _, rfl, _, _, rfl, rfl, ?_⟩
    first | refine sigN [some (.ref p), some (.int (c.disc)), some (.int (c.c4)), some (.int (c.c6)), some (.int ((u : Int))), some (.int ((a : Int))), some (.int ((b : Int))), none, none, none, none, none, none] (by rfl) ?_ | refine sig [some (.ref p), some (.int (c.disc)), some (.int (c.c4)), some (.int (c.c6)), some (.int ((u : Int))), some (.int ((a : Int))), some (.int ((b : Int))), none, none, none, none, none, none] (by rfl) ?_
    have sA := s1.trans (s2.trans s3)
    clear s1 s2 s3 g1 g3
    have ule : u ≤ 177 := most_le e4 e6 hz h4 h6
    have ale : a ≤ 7 := pow_le7 (p := 2) (by decide) (Nat.le_trans (Nat.le_of_dvd u0 ⟨m1, hu⟩) ule)
    have ble : b ≤ 7 := pow_le7 (p := 3) (by decide) (Nat.le_trans (Nat.le_of_dvd u0 ⟨_, hu3⟩) ule)
    refine ⟨_, rfl, _, _, rfl, rfl, (a : Int) + 1, rfl, by omega, by omega, fun D hD => ?_⟩
    refine turns (lo := 0) (n := a + 1) (fun i H5 => Same H3 H5 ∧ H5 D = some (.lst ((prodL i (b + 1)).map V.int))) ⟨Same.new hD, upd_same⟩ (fun i H5 hi z => ?_) (fun H5 z => ?_)
    · refine ⟨rfl, _, rfl, _, _, rfl, rfl, (b : Int) + 1, rfl, by omega, by omega, ?_⟩
      refine turns (lo := 0) (n := b + 1) (fun j H6 => Same H3 H6 ∧ H6 D = some (.lst ((prodL i (b + 1) ++ rowL i j).map V.int))) ⟨z.1, by rw [z.2, show rowL i 0 = [] from rfl, List.append_nil]⟩ (fun j H6 hj y => ?_) (fun H6 y => ⟨y.1, by rw [prodL_succ]; exact y.2⟩)
      refine ⟨rfl, _, rfl, 2, 0 + (i : Int), rfl, by omega, by omega, B.lit (n := 8) (by decide) |>.up (by decide), _, rfl, 3, 0 + (j : Int), rfl, by omega, by omega, B.lit (n := 8) (by decide) |>.up (by decide), ?_⟩
      have e2 : (0 + (i : Int)).toNat = i := by omega
      have e3 : (0 + (j : Int)).toNat = j := by omega
      have eL : (i * (b + 1)) ≤ 8 * 8 := Nat.mul_le_mul (by omega) (by omega)
      refine ⟨_, _, rfl, rfl, B.mulW (pw_B (p := 2) (by decide) (by omega)) (pw_B (p := 3) (by decide) (by omega)) (by decide), _, y.2, by rw [List.length_map, List.length_append, prodL_len, rowL_len]; exact small1000 (by omega), Same.put y.1 hD, ?_⟩
      rw [upd_same, rowL_succ, ← List.append_assoc, e2, e3]
      simp only [List.map_append, List.map_cons, List.map_nil, Int.natCast_mul, Int.natCast_pow]
      rfl
    obtain ⟨s5, gD⟩ := z
    refine ⟨D, prodL (a + 1) (b + 1), rfl, lst_of gD, fun ns l perm pw nl => ?_⟩
    have s6 := Same.new (H := H5) (p := l) (o := .lst (ns.map V.int)) nl
    have gl : upd H5 l (.lst (ns.map V.int)) l = some (.lst (ns.map V.int)) := upd_same
    generalize upd H5 l (.lst (ns.map V.int)) = H6 at s6 gl ⊢
    have sB := sA.trans (s5.trans s6)
    have ht0 : ((2 ^ i0 * 3 ^ j0 : Nat) : Int) ∈ ns := perm.symm.subset (mem_prodL.mpr ⟨i0, j0, by omega, by omega, rfl⟩)
    have hin : ∀ z ∈ ns, ∃ x : Nat, z = (x : Int) ∧ 0 < x ∧ x ∣ u := fun z hz => by
      obtain ⟨i, j, hi, hj, rfl⟩ := mem_prodL.mp (perm.subset hz)
      refine ⟨_, rfl, Nat.mul_pos (Nat.pow_pos (by decide)) (Nat.pow_pos (by decide)), ?_⟩
      have d1 : 2 ^ i ∣ 2 ^ a := Nat.pow_dvd_pow 2 (by omega)
      have d2 : 3 ^ j ∣ 3 ^ b := Nat.pow_dvd_pow 3 (by omega)
      rw [hu, hm1, ← Nat.mul_assoc]
      exact Nat.dvd_trans (Nat.mul_dvd_mul d1 d2) (Nat.dvd_mul_right _ m)
    generalize ht : 2 ^ i0 * 3 ^ j0 = t0 at ht0 huv
    clear s5 s6 sA gD perm
    refine ⟨l, rfl, ⟨_, lst_of gl⟩, for_list (K := K) (a := l) (xs := ns.map V.int) (fun k σ H7 => Same H6 H7 ∧ (∀ x ∈ ns.take k, ¬ (t0 : Int) ∣ x) ∧ ∃ v7 v10 v11 v12 : Option V, σ = [some (.ref p), some (.int c.disc), some (.int c.c4), some (.int c.c6), some (.int (u : Int)), some (.int (a : Int)), some (.int (b : Int)), v7, none, none, v10, v11, v12]) ⟨Same.refl _, (by intro x hx; cases hx), none, none, none, none, rfl⟩ (fun k σ H7 _ z => lst_of (z.1 _ _ gl)) ?_ ?_⟩
    · rintro k x σ H7 hk ⟨s7, hno, v7, v10, v11, v12, rfl⟩
      obtain ⟨z, rfl, hzk⟩ : ∃ z, x = V.int z ∧ ns[k]? = some z := by
        rw [List.getElem?_map] at hk
        cases e : ns[k]? with
        | none =>
          rw [e] at hk
          cases hk
        | some y =>
          rw [e] at hk
          exact ⟨y, (Option.some.inj hk).symm, rfl⟩
      obtain ⟨x, rfl, x0, y, hxy⟩ := hin z (List.mem_of_getElem? hzk)
      have xI : (x : Int) ≠ 0 := by omega
      have y0 : 0 < y := Nat.pos_of_ne_zero fun z => by
        rw [z, Nat.mul_zero] at hxy
        omega
      have yI : (y : Int) ≠ 0 := by omega
      have yle : y ≤ 177 := Nat.le_trans (Nat.le_of_dvd u0 ⟨x, by rw [hxy]; ac_rfl⟩) ule
      have xle : x ≤ 177 := Nat.le_trans (Nat.le_of_dvd u0 ⟨y, hxy⟩) ule
      have bx : B 8 (x : Int) := by unfold B; omega
      have by8 : B 8 (y : Int) := by unfold B; omega
      have eu : (u : Int).fdiv (x : Int) = (y : Int) := by
        rw [hxy, Int.natCast_mul]
        exact Int.mul_fdiv_cancel_left _ xI
      first | refine sigN [some (.ref p), some (.int (c.disc)), some (.int (c.c4)), some (.int (c.c6)), some (.int ((u : Int))), some (.int ((a : Int))), some (.int ((b : Int))), some (.int ((x : Int))), none, none, v10, v11, v12] (by rfl) ?_ | refine sig [some (.ref p), some (.int (c.disc)), some (.int (c.c4)), some (.int (c.c6)), some (.int ((u : Int))), some (.int ((a : Int))), some (.int ((b : Int))), some (.int ((x : Int))), none, none, v10, v11, v12] (by rfl) ?_
      refine ⟨_, rfl, _, rfl, (u : Int), (x : Int), rfl, rfl, div_any xI bx (by decide), ?_⟩
      refine sigN [some (.ref p), some (.int c.disc), some (.int c.c4), some (.int c.c6), some (.int (u : Int)), some (.int (a : Int)), some (.int (b : Int)), some (.int (x : Int)), none, none, some (.int (y : Int)), v11, v12] (by rw [← eu]; rfl) ?_
      have b2 := by8.mul by8
      have b3 := b2.mul by8
      have b4 := b3.mul by8
      have b5 := b4.mul by8
      have b6 := b5.mul by8
      refine ⟨_, rfl, _, rfl, _, _, rfl, rfl, by8.mulW by8 (by decide), _, rfl, _, _, rfl, rfl, b2.mulW by8 (by decide), _, rfl, _, _, rfl, rfl, b3.mulW by8 (by decide), ?_⟩
      first | refine sigN [some (.ref p), some (.int (c.disc)), some (.int (c.c4)), some (.int (c.c6)), some (.int ((u : Int))), some (.int ((a : Int))), some (.int ((b : Int))), some (.int ((x : Int))), none, none, some (.int ((y : Int))), some (.int ((y : Int) * (y : Int) * (y : Int) * (y : Int))), v12] (by rfl) ?_ | refine sig [some (.ref p), some (.int (c.disc)), some (.int (c.c4)), some (.int (c.c6)), some (.int ((u : Int))), some (.int ((a : Int))), some (.int ((b : Int))), some (.int ((x : Int))), none, none, some (.int ((y : Int))), some (.int ((y : Int) * (y : Int) * (y : Int) * (y : Int))), v12] (by rfl) ?_
      have n4 : (y : Int) * y * y * y ≠ 0 := Int.mul_ne_zero (Int.mul_ne_zero (Int.mul_ne_zero yI yI) yI) yI
      have n6 : (y : Int) * y * y * y * y * y ≠ 0 := Int.mul_ne_zero (Int.mul_ne_zero n4 yI) yI
      have k4 : c.c4 = (y : Int) * y * y * y * ((x : Int) ^ 4 * A) := by
        rw [e4, hxy, Int.natCast_mul]
        grind
      have k6 : c.c6 = (y : Int) * y * y * y * y * y * ((x : Int) ^ 6 * C) := by
        rw [e6, hxy, Int.natCast_mul]
        grind
      have f4 : c.c4.fdiv ((y : Int) * y * y * y) = (x : Int) ^ 4 * A := by
        rw [k4]
        exact Int.mul_fdiv_cancel_left _ n4
      have f6 : c.c6.fdiv ((y : Int) * y * y * y * y * y) = (x : Int) ^ 6 * C := by
        rw [k6]
        exact Int.mul_fdiv_cancel_left _ n6
      have g4 : B 100 (c.c4.fdiv ((y : Int) * y * y * y)) := by
        rw [f4]
        have : ((x : Int) ^ 4 * A).natAbs ≤ c.c4.natAbs := by
          have e := congrArg Int.natAbs k4
          rw [Int.natAbs_mul] at e
          rw [e]
          exact Nat.le_mul_of_pos_left _ (Int.natAbs_pos.mpr n4)
        unfold B
        omega
      have g6 : B 120 (c.c6.fdiv ((y : Int) * y * y * y * y * y)) := by
        rw [f6]
        have : ((x : Int) ^ 6 * C).natAbs ≤ c.c6.natAbs := by
          have e := congrArg Int.natAbs k6
          rw [Int.natAbs_mul] at e
          rw [e]
          exact Nat.le_mul_of_pos_left _ (Int.natAbs_pos.mpr n6)
        unfold B
        omega
      have hL : Lets c.c4 c.c6 y ↔ ∃ d, curveOf ((x : Int) ^ 4 * A) ((x : Int) ^ 6 * C) = some d := by
        rw [← isp_curve]
        constructor
        · rintro ⟨-, X, Y, r4, r6, hp⟩
          obtain rfl : X = (x : Int) ^ 4 * A := Int.eq_of_mul_eq_mul_left n4 (by rw [← k4, r4, pw4])
          obtain rfl : Y = (x : Int) ^ 6 * C := Int.eq_of_mul_eq_mul_left n6 (by rw [← k6, r6, pw6])
          exact hp
        · exact fun hp => ⟨y0, _, _, by rw [pw4]; exact k4, by rw [pw6]; exact k6, hp⟩
      refine ⟨_, rfl, _, rfl, c.c4, _, rfl, rfl, div_any n4 b4 (by decide), _, rfl, _, rfl, _, rfl, _, _, rfl, rfl, b4.mulW by8 (by decide), _, rfl, _, _, rfl, rfl, b5.mulW by8 (by decide), c.c6, _, rfl, rfl, div_any n6 b6 (by decide), _, _, rfl, g4, g6, fun hn H8 s8 => ?_, fun d t8 H8 hd8 s8 g8 => ?_⟩
      · rw [f4, f6] at hn
        refine ⟨_, rfl, rfl, _, rfl, iteN (by simp) ?_⟩
        refine ⟨s7.trans s8, fun x' hx' => ?_, _, _, _, _, rfl⟩
        rw [List.take_add_one, hzk] at hx'
        rcases List.mem_append.mp hx' with q1 | q1
        · exact hno x' q1
        · have : x' = (x : Int) := by simpa using q1
          rw [this]
          intro dv
          obtain ⟨s, hs⟩ := Int.natCast_dvd_natCast.mp dv
          have t00 : 0 < t0 := Nat.pos_of_ne_zero fun z => by
            rw [z, Nat.zero_mul] at hs
            omega
          have ev : v = y * s := Nat.eq_of_mul_eq_mul_right t00 (by rw [← huv, hxy, hs]; ac_rfl)
          obtain ⟨d, hd9⟩ := hL.mp ((hv y).mpr ⟨y0, s, ev⟩)
          rw [hn] at hd9
          cases hd9
      · rw [f4, f6] at hd8
        refine ⟨_, rfl, rfl, _, rfl, iteY (by simp) ?_⟩
        refine ⟨_, rfl, _, rfl, (by show 2 ≤ sizeLine; decide), fun t9 n9 => ?_⟩
        have ly := hL.mpr ⟨d, hd8⟩
        obtain ⟨s, hs⟩ := ((hv y).mp ly).2
        have ex : x = s * t0 := Nat.eq_of_mul_eq_mul_right y0 (by rw [← hxy, huv, hs]; ac_rfl)
        have et : x = t0 := by
          obtain ⟨k', hk'⟩ := List.mem_iff_getElem?.mp ht0
          rcases Nat.lt_trichotomy k' k with w1 | w1 | w1
          · exfalso
            refine hno (t0 : Int) (List.mem_iff_getElem?.mpr ⟨k', by rw [List.getElem?_take_of_lt w1]; exact hk'⟩) (Int.dvd_refl _)
          · rw [w1, hzk] at hk'
            have := Option.some.inj hk'
            omega
          · have le : (x : Int) ≤ (t0 : Int) := by
              obtain ⟨q1, r1⟩ := List.getElem?_eq_some_iff.mp hzk
              obtain ⟨q2, r2⟩ := List.getElem?_eq_some_iff.mp hk'
              rw [← r1, ← r2]
              exact List.pairwise_iff_getElem.mp pw k k' q1 q2 w1
            have le2 : t0 ≤ x := Nat.le_of_dvd x0 ⟨s, by rw [ex]; ac_rfl⟩
            omega
        have ev : v = y := by
          have t00 : 0 < t0 := by omega
          exact Nat.eq_of_mul_eq_mul_right t00 (by rw [← huv, hxy, et]; ac_rfl)
        have s9 := Same.new (o := .tup [.ref t8, .int (y : Int)]) n9
        refine q _ t9 t8 y d (sB.trans (s7.trans (s8.trans s9))) upd_same (s9 _ _ g8) ⟨y0, fun u' => ?_, _, _, ?_, ?_, hd8⟩
        · rw [hv u', ev]
        · rw [pw4]
          exact k4
        · rw [pw6]
          exact k6
    · rintro σ H7 ⟨s7, hno, -⟩
      exfalso
      rw [List.length_map, List.take_length] at hno
      exact hno _ ht0 (Int.dvd_refl _)
end
end K13
set_option Elab.async false
set_option linter.all false
set_option maxRecDepth 100000
set_option maxHeartbeats 4000000
namespace K13
open PySem PySem.Spec PyProof.Rows L2 Gd QM K08M
instance : DecidableEq Cv := fun a b => decidable_of_iff (a.a1 = b.a1 ∧ a.a2 = b.a2 ∧ a.a3 = b.a3 ∧ a.a4 = b.a4 ∧ a.a6 = b.a6) ⟨fun ⟨h1, h2, h3, h4, h6⟩ => by
  obtain ⟨a1, a2, a3, a4, a6⟩ := a
  obtain ⟨b1, b2, b3, b4, b6⟩ := b
  simp only at h1 h2 h3 h4 h6
  rw [h1, h2, h3, h4, h6], fun h => by subst h; exact ⟨rfl, rfl, rfl, rfl, rfl⟩⟩
theorem fq_w (w : Nat) : [V.int (w : Int), V.int 1] = fq (((w : Int)) : Rat) := rfl
def dcv (c : Cv) : PyData := .tuple [.int c.a1, .int c.a2, .int c.a3, .int c.a4, .int c.a6]
theorem dp_cv {K : PySem.W.Frag} {H : Hp} {p : Addr} {c : Cv} (h : SqT K H p c.tup) : Dp K H (.ref p) (dcv c) := .tup h (.cons (.int _) (.cons (.int _) (.cons (.int _) (.cons (.int _) (.cons (.int _) .nil)))))
theorem eqv_cv (c d : Cv) : PyData.eqv (dcv c) (dcv d) = decide (c = d) := by
  rw [Bool.eq_iff_iff, decide_eq_true_iff]
  obtain ⟨a1, a2, a3, a4, a6⟩ := c
  obtain ⟨b1, b2, b3, b4, b6⟩ := d
  simp [dcv, PyData.eqv, PyData.eqvAll]
/-- what the walk asks of a curve -/
structure Cv.Ok (c : Cv) : Prop where
  md : c.Md
  d : c.disc ≠ 0
  h4 : c.c4.natAbs ≤ 1000000000
  h6 : c.c6.natAbs ≤ 10000000000000
theorem Lst.rc {c4 c6 : Int} {v : Nat} {d : Cv} (h : Lst c4 c6 v d) : Rc d := by
  obtain ⟨x, y, -, -, e⟩ := h.at_
  exact (curve_some e).1
theorem Lst.nums {c4 c6 : Int} {v : Nat} {d : Cv} (h : Lst c4 c6 v d) : c4 = (v : Int) ^ 4 * d.c4 ∧ c6 = (v : Int) ^ 6 * d.c6 ∧ d.disc ≠ 0 := by
  obtain ⟨x, y, h4, h6, e⟩ := h.at_
  obtain ⟨-, f4, f6, hd⟩ := curve_some e
  rw [f4, f6]
  exact ⟨h4, h6, hd⟩
theorem Lst.le {c4 c6 : Int} {v : Nat} {d : Cv} (h : Lst c4 c6 v d) : d.c4.natAbs ≤ c4.natAbs ∧ d.c6.natAbs ≤ c6.natAbs := by
  obtain ⟨h4, h6, -⟩ := h.nums
  have v4 : 0 < v ^ 4 := Nat.pow_pos h.v0
  have v6 : 0 < v ^ 6 := Nat.pow_pos h.v0
  constructor
  · rw [h4, Int.natAbs_mul, Int.natAbs_pow, Int.natAbs_natCast]
    exact Nat.le_mul_of_pos_left _ v4
  · rw [h6, Int.natAbs_mul, Int.natAbs_pow, Int.natAbs_natCast]
    exact Nat.le_mul_of_pos_left _ v6
theorem Lst.small {c4 c6 : Int} {v : Nat} {d : Cv} (h : Lst c4 c6 v d) (k4 : c4.natAbs ≤ 1000000000) (k6 : c6.natAbs ≤ 10000000000000) : v ≤ 177 := by
  obtain ⟨h4, h6, hd⟩ := h.nums
  refine most_le h4 h6 ?_ k4 k6
  rintro ⟨z4, z6⟩
  have e := disc_eq d
  have v4 : (v : Int) ^ 4 ≠ 0 := Int.pow_ne_zero (by have := h.v0; omega)
  have v6 : (v : Int) ^ 6 ≠ 0 := Int.pow_ne_zero (by have := h.v0; omega)
  rw [z4] at h4
  rw [z6] at h6
  have y4 : d.c4 = 0 := (Int.mul_eq_zero.mp h4.symm).resolve_left v4
  have y6 : d.c6 = 0 := (Int.mul_eq_zero.mp h6.symm).resolve_left v6
  rw [y4, y6] at e
  omega
theorem Lst.md {c4 c6 : Int} {v : Nat} {d : Cv} (h : Lst c4 c6 v d) (k4 : c4.natAbs ≤ 1000000000) (k6 : c6.natAbs ≤ 10000000000000) : d.Md := by
  obtain ⟨l4, l6⟩ := h.le
  have hr := h.rc
  have k1 := b2_of hr
  have e4 := c4_of d
  have e6 := c6_of d
  have f4 : d.b4 = 2 * d.a4 + d.a1 * d.a3 := rfl
  have f6 : d.b6 = d.a3 * d.a3 + 4 * d.a6 := rfl
  obtain ⟨h1, h2, h3⟩ := hr
  have q4 : d.a4.natAbs ≤ 1000000000 ∧ d.b4.natAbs ≤ 1000000000 := by
    generalize d.b2 = u2 at *
    generalize d.b4 = u4 at *
    rcases k1 with ⟨k1, _, rfl⟩ | ⟨k1, _, rfl⟩ | ⟨k1, _, rfl⟩ | ⟨k1, _, rfl⟩ | ⟨k1, _, rfl⟩ | ⟨k1, _, rfl⟩ <;> rw [k1] at f4 <;> omega
  have q6 : d.a6.natAbs ≤ 1000000000000000 := by
    obtain ⟨-, q4⟩ := q4
    generalize d.b2 = u2 at *
    generalize d.b4 = u4 at *
    generalize d.b6 = u6 at *
    clear f4 e4
    rcases h3 with h3 | h3 <;> rw [h3] at f6 <;> rcases k1 with ⟨_, _, rfl⟩ | ⟨_, _, rfl⟩ | ⟨_, _, rfl⟩ | ⟨_, _, rfl⟩ | ⟨_, _, rfl⟩ | ⟨_, _, rfl⟩ <;> omega
  obtain ⟨q4, -⟩ := q4
  exact ⟨by unfold B; omega, by unfold B; omega, by unfold B; omega, by unfold B; omega, by unfold B; omega⟩
section
variable {P : Program} {w : World} {K : PySem.W.Frag} {mg : Str → Option Value} {base : Heap}
/-! ### the scale; whether a curve is least; the least model and the change -/
def sp_scale_of (K : PySem.W.Frag) : Sp := fun vs H Q _ => ∃ (p : Addr) (c : Cv), vs = [.ref p] ∧ SqT K H p c.tup ∧ c.Ok ∧ ∀ H' v d, Same H H' → Lst c.c4 c.c6 v d → Q (.int (v : Int)) H'
abbrev s_scale_of : Stmt := topS 52
theorem sc_scale_of : FnScope ["curve"] ["curve"] (defScope s_scale_of) := ⟨rfl, rfl, rfl, by decide +kernel, rfl, by decide +kernel, by decide +kernel⟩
theorem k_scale_of (T : Tx K mg) (D : Df K mg "scale_of" s_scale_of ["curve"]) (c_least_and_scale : Kl P w K mg base 9 "least_and_scale" (sp_least_and_scale K)) : Kl P w K mg base 10 "scale_of" (sp_scale_of K) := by
  have nd := sc_scale_of.nd
  refine Kl.by_body D sc_scale_of (fun vs H Q E h => ?_) (fun f cdv A outer s H vs Q E hr h => ?_)
  · obtain ⟨_, _, rfl, _⟩ := h
    rfl
  · obtain ⟨p, c, rfl, hx, ok, q⟩ := h
    have hu1 := hu_of hr
    refine ⟨_, (pss_one (ps_ret (pe_ix ix_tup (pe_k c_least_and_scale  hr (by decide) (by rfl) (pa_cons (pv 0) pa_nil)) pe_int (fun _ _ => rfl)))), ?_⟩
    refine ⟨.ref p, rfl, p, c, rfl, hx, ok.md, ok.d, ok.h4, ok.h6, fun H1 t l v d s1 gt gl hl => ?_⟩
    exact ⟨t, _, 1, .int (v : Int), rfl, rfl, tup_of gt, rfl, q H1 v d s1 hl⟩
def sp_is_least (K : PySem.W.Frag) : Sp := fun vs H Q _ => ∃ (p : Addr) (c : Cv), vs = [.ref p] ∧ SqT K H p c.tup ∧ c.Ok ∧ ∀ H' v d, Same H H' → Lst c.c4 c.c6 v d → Q (.bl (decide (d = c))) H'
abbrev s_is_least : Stmt := topS 51
theorem sc_is_least : FnScope ["curve"] ["curve"] (defScope s_is_least) := ⟨rfl, rfl, rfl, by decide +kernel, rfl, by decide +kernel, by decide +kernel⟩
theorem k_is_least (T : Tx K mg) (D : Df K mg "is_least" s_is_least ["curve"]) (c_five : Kl P w K mg base 1 "five" (sp_five K)) (c_least_and_scale : Kl P w K mg base 9 "least_and_scale" (sp_least_and_scale K)) : Kl P w K mg base 10 "is_least" (sp_is_least K) := by
  have nd := sc_is_least.nd
  refine Kl.by_body D sc_is_least (fun vs H Q E h => ?_) (fun f cdv A outer s H vs Q E hr h => ?_)
  · obtain ⟨_, _, rfl, _⟩ := h
    rfl
  · obtain ⟨p, c, rfl, hx, ok, q⟩ := h
    have hu1 := hu_of hr
    refine ⟨_, (pss_one (ps_ret (pe_cmpR (op_eqD hr.units) (pe_ix ix_tup (pe_k c_least_and_scale  hr (by decide) (by rfl) (pa_cons (pv 0) pa_nil)) pe_int (fun _ _ => rfl)) (pe_k c_five  hr (by decide) (by rfl) (pa_cons (pv 0) pa_nil)) (nomark _)))), ?_⟩
    refine ⟨.ref p, rfl, p, c, rfl, hx, ok.md, ok.d, ok.h4, ok.h6, fun H1 t l v d s1 gt gl hl => ?_⟩
    refine ⟨t, _, 0, .ref l, rfl, rfl, tup_of gt, rfl, .ref p, rfl, p, c, rfl, Same.tup s1 hx, ?_⟩
    refine ⟨_, _, dp_cv (tup_of gl), dp_cv (Same.tup s1 hx), rfl, rfl, ?_⟩
    rw [eqv_cv]
    exact q H1 v d s1 hl
def sp_least_model (K : PySem.W.Frag) : Sp := fun vs H Q _ => ∃ (p : Addr) (c : Cv), vs = [.ref p] ∧ SqT K H p c.tup ∧ c.Ok ∧ ∀ H' t l o v d, Same H H' → Lst c.c4 c.c6 v d → H' t = some (.tup [.ref l, .ref o]) → SqT K H' l (Cv.tup d) → ChAt K H' o ⟨((v : Int) : Rat), cR c d ((v : Int) : Rat), cS c d ((v : Int) : Rat), cT c d ((v : Int) : Rat)⟩ → Q (.ref t) H'
abbrev s_least_model : Stmt := topS 50
theorem sc_least_model : FnScope ["curve", "least", "w"] ["curve"] (defScope s_least_model) := ⟨rfl, rfl, rfl, by decide +kernel, rfl, by decide +kernel, by decide +kernel⟩
theorem k_least_model (T : Tx K mg) (D : Df K mg "least_model" s_least_model ["curve"]) (c_least_and_scale : Kl P w K mg base 9 "least_and_scale" (sp_least_and_scale K)) (c_change_with : Kl P w K mg base 4 "change_with" (sp_change_with K)) : Kl P w K mg base 10 "least_model" (sp_least_model K) := by
  have nd := sc_least_model.nd
  refine Kl.by_body D sc_least_model (fun vs H Q E h => ?_) (fun f cdv A outer s H vs Q E hr h => ?_)
  · obtain ⟨_, _, rfl, _⟩ := h
    rfl
  · obtain ⟨p, c, rfl, hx, ok, q⟩ := h
    have hu1 := hu_of hr
    refine ⟨_, (pss_cons (ps_asg (pe_k c_least_and_scale  hr (by decide) (by rfl) (pa_cons (pv 0) pa_nil)) (pg_tup rfl (pgs_cons (pg_name (i := 1) nd rfl (by first | exact Or.inl rfl | exact Or.inr rfl)) (pgs_cons (pg_name (i := 2) nd rfl (by first | exact Or.inl rfl | exact Or.inr rfl)) pgs_nil))))
      (pss_one (ps_ret (pe_tup (pa_cons (pv 1) (pa_cons (pe_k c_change_with  hr (by decide) (by rfl) (pa_cons (pv 0) (pa_cons (pv 1) (pa_cons (pe_tup (pa_cons (pv 2) (pa_cons pe_int pa_nil))) pa_nil)))) pa_nil)))))), ?_⟩
    refine ⟨.ref p, rfl, p, c, rfl, hx, ok.md, ok.d, ok.h4, ok.h6, fun H1 t l v d s1 gt gl hl => ?_⟩
    refine ⟨t, _, rfl, tup_of gt, rfl, _, _, rfl, _, _, rfl, rfl, ?_⟩
    first | refine sigN [some (.ref p), some (.ref l), some (.int ((v : Int)))] (by rfl) ?_ | refine sig [some (.ref p), some (.ref l), some (.int ((v : Int)))] (by rfl) ?_
    have vle := hl.small ok.h4 ok.h6
    refine ⟨.ref l, rfl, .ref p, rfl, .ref l, rfl, _, rfl, (by show 2 ≤ sizeLine; decide), fun t2 nt2 => ?_⟩
    rw [fq_w]
    have s2 := Same.new (H := H1) (p := t2) (o := .tup (fq (((v : Int)) : Rat))) nt2
    have g2 : upd H1 t2 (.tup (fq (((v : Int)) : Rat))) t2 = some (.tup (fq (((v : Int)) : Rat))) := upd_same
    generalize upd H1 t2 (.tup (fq (((v : Int)) : Rat))) = H2 at s2 g2 ⊢
    refine ⟨p, l, t2, c, d, ((v : Int) : Rat), rfl, Same.tup (s1.trans s2) hx, tup_of (s2 _ _ gl), ok.md, hl.md ok.h4 ok.h6, tup_of g2, RB.int (show (v : Int).natAbs < 2 ^ 160 by omega) (by decide), fun H3 t3 pr ps pt s3 g3 hr' hs ht' => ?_⟩
    refine ⟨(by show 2 ≤ sizeLine; decide), fun t4 nt4 => ?_⟩
    have s4 := Same.new (H := H3) (p := t4) (o := .tup [.ref l, .ref t3]) nt4
    have g4 : upd H3 t4 (.tup [.ref l, .ref t3]) t4 = some (.tup [.ref l, .ref t3]) := upd_same
    generalize upd H3 t4 (.tup [.ref l, .ref t3]) = H4 at s4 g4 ⊢
    exact q _ t4 l t3 v d (s1.trans (s2.trans (s3.trans s4))) hl g4 (tup_of (s4 _ _ (s3 _ _ (s2 _ _ gl)))) ⟨t2, pr, ps, pt, tup_of (s4 _ _ g3), tup_of (s4 _ _ (s3 _ _ g2)), Same.tup s4 hr', Same.tup s4 hs, Same.tup s4 ht'⟩
end
end K13
set_option linter.all false
set_option maxRecDepth 100000
set_option maxHeartbeats 4000000
namespace K13
open PySem PySem.Spec PyProof.Rows L2 Gd QM
/-! ### curves made greater and moved -/
def sc (S : Int) (c : Cv) : Cv := ⟨S * c.a1, S ^ 2 * c.a2, S ^ 3 * c.a3, S ^ 4 * c.a4, S ^ 6 * c.a6⟩
def mvd (S r s t : Int) (c : Cv) : Cv := moved (sc S c) r s t
theorem sc_b2 (S : Int) (c : Cv) : (sc S c).b2 = S ^ 2 * c.b2 := by
  unfold sc Cv.b2
  grind
theorem sc_b4 (S : Int) (c : Cv) : (sc S c).b4 = S ^ 4 * c.b4 := by
  unfold sc Cv.b4
  grind
theorem sc_b6 (S : Int) (c : Cv) : (sc S c).b6 = S ^ 6 * c.b6 := by
  unfold sc Cv.b6
  grind
theorem mvd_c4 (S r s t : Int) (c : Cv) : (mvd S r s t c).c4 = S ^ 4 * c.c4 := by
  unfold mvd
  rw [mvc4]
  unfold Cv.c4
  rw [sc_b2, sc_b4]
  grind
theorem mvd_c6 (S r s t : Int) (c : Cv) : (mvd S r s t c).c6 = S ^ 6 * c.c6 := by
  unfold mvd
  rw [mvc6]
  unfold Cv.c6
  rw [sc_b2, sc_b4, sc_b6]
  grind
theorem mvd_d {S r s t : Int} {c : Cv} (hS : S ≠ 0) (h : c.disc ≠ 0) : (mvd S r s t c).disc ≠ 0 := fun e => h (by
  rw [disc0] at e ⊢
  rw [mvd_c4, mvd_c6] at e
  have h12 : S ^ 12 ≠ 0 := Int.pow_ne_zero hS
  have k : S ^ 12 * (c.c4 * c.c4 * c.c4 - c.c6 * c.c6) = 0 := by grind
  rcases Int.mul_eq_zero.mp k with z | z
  · exact absurd z h12
  · omega)
/-- the change that makes it so -/
def chM (S r s t : Int) : Ch := ⟨Rat.divInt 1 S, Rat.divInt r (S * S), Rat.divInt s S, Rat.divInt t (S ^ 3)⟩
theorem mvd_led {S r s t : Int} (hS : S ≠ 0) (c : Cv) : qsL (chM S r s t) c = (mvd S r s t c).ints.map fun n : Int => (n : Rat) := by
  have hq : (S : Rat) ≠ 0 := fun z => hS (by exact_mod_cast z)
  have eu : (chM S r s t).u = 1 / (S : Rat) := by
    show Rat.divInt 1 S = _
    rw [Rat.divInt_eq_div]
    rfl
  have er : (chM S r s t).r = (r : Rat) * ((1 / (S : Rat)) * (1 / (S : Rat))) := by
    show Rat.divInt r (S * S) = _
    rw [Rat.divInt_eq_div, Rat.intCast_mul]
    grind
  have es : (chM S r s t).s = (s : Rat) * (1 / (S : Rat)) := by
    show Rat.divInt s S = _
    rw [Rat.divInt_eq_div]
    grind
  have et : (chM S r s t).t = (t : Rat) * ((1 / (S : Rat)) * (1 / (S : Rat)) * (1 / (S : Rat))) := by
    show Rat.divInt t (S ^ 3) = _
    rw [Rat.divInt_eq_div, show S ^ 3 = S * S * S by grind, Rat.intCast_mul, Rat.intCast_mul]
    grind
  have hu : 1 / (S : Rat) * (S : Rat) = 1 := by rw [Rat.div_mul_cancel hq]
  have u0 : 1 / (S : Rat) ≠ 0 := fun z => by
    rw [z, Rat.zero_mul] at hu
    cases hu
  have dv : ∀ {x y z : Rat}, y ≠ 0 → x = z * y → x / y = z := fun {x y z} h e => by rw [e, Rat.mul_div_cancel h]
  show [l1 _ _, l2 _ _ _, l3 _ _ _, l4 _ _ _ _ _, l6 _ _ _ _ _ _] = [(((mvd S r s t c).a1 : Int) : Rat), (((mvd S r s t c).a2 : Int) : Rat), (((mvd S r s t c).a3 : Int) : Rat), (((mvd S r s t c).a4 : Int) : Rat), (((mvd S r s t c).a6 : Int) : Rat)]
  unfold l1 l2 l3 l4 l6
  rw [eu, er, es, et]
  unfold mvd moved sc
  simp only [List.cons.injEq, and_true]
  push_cast
  generalize 1 / (S : Rat) = u at *
  generalize (S : Rat) = S at *
  generalize (r : Rat) = r at *
  generalize (s : Rat) = s at *
  generalize (t : Rat) = t at *
  generalize (c.a1 : Rat) = a1 at *
  generalize (c.a2 : Rat) = a2 at *
  generalize (c.a3 : Rat) = a3 at *
  generalize (c.a4 : Rat) = a4 at *
  generalize (c.a6 : Rat) = a6 at *
  clear er es et eu
  have u2 := qmul_ne u0 u0
  have u3 := qmul_ne u2 u0
  have u4 := qmul_ne u2 u2
  have u6 := qmul_ne u3 u3
  refine ⟨dv u0 ?_, dv u2 ?_, dv u3 ?_, dv u4 ?_, dv u6 ?_⟩
  · grind
  · grind
  · grind
  · grind
  · grind
theorem mvd_whole {S r s t : Int} (hS : S ≠ 0) (c : Cv) : (qsL (chM S r s t) c).map (fun q => V.int q.num) = (mvd S r s t c).tup := by
  rw [mvd_led hS, Cv.tup_ints]
  exact num_ints _
/-! ### the change to the least model -/
theorem k2_of {a1 a2 e1 e2 w s r : Rat} (fs : 2 * s = w * e1 - a1) (fr : 3 * r = w * w * e2 - a2 + s * a1 + s * s) : a1 * a1 + 4 * a2 + 12 * r = w * w * (e1 * e1 + 4 * e2) := by
  have x1 : a1 = w * e1 - 2 * s := by grind
  have x2 : a2 = w * w * e2 + s * a1 + s * s - 3 * r := by grind
  clear fs fr
  subst x2
  subst x1
  grind
theorem k4_of {b2 b4 d2 d4 w r : Rat} (k2 : b2 + 12 * r = w * w * d2) (h4 : b2 * b2 - 24 * b4 = w ^ 4 * (d2 * d2 - 24 * d4)) : b4 + r * b2 + 6 * r * r = w ^ 4 * d4 := by
  have x1 : b2 = w * w * d2 - 12 * r := by grind
  clear k2
  subst x1
  grind
theorem k6_of {b2 b4 b6 d2 d4 d6 w r : Rat} (k2 : b2 + 12 * r = w * w * d2) (k4 : b4 + r * b2 + 6 * r * r = w ^ 4 * d4) (h6 : 36 * b2 * b4 - b2 * b2 * b2 - 216 * b6 = w ^ 6 * (36 * d2 * d4 - d2 * d2 * d2 - 216 * d6)) : b6 + 2 * r * b4 + r * r * b2 + 4 * r * r * r = w ^ 6 * d6 := by
  have x1 : b2 = w * w * d2 - 12 * r := by grind
  have x2 : b4 = w ^ 4 * d4 - r * b2 - 6 * r * r := by grind
  clear k2 k4
  subst x2
  subst x1
  grind
theorem m4_of {a1 a2 a3 a4 e1 e3 e4 w r s t : Rat} (f1 : a1 + 2 * s = w * e1) (f3 : a3 + r * a1 + 2 * t = w * w * w * e3) (k : (2 * a4 + a1 * a3) + r * (a1 * a1 + 4 * a2) + 6 * r * r = w ^ 4 * (2 * e4 + e1 * e3)) : a4 - s * a3 + 2 * r * a2 - (t + r * s) * a1 + 3 * r * r - 2 * s * t = e4 * (w * w * (w * w)) := by
  have i : 2 * (a4 - s * a3 + 2 * r * a2 - (t + r * s) * a1 + 3 * r * r - 2 * s * t) + (a1 + 2 * s) * (a3 + r * a1 + 2 * t) = (2 * a4 + a1 * a3) + r * (a1 * a1 + 4 * a2) + 6 * r * r := by grind
  rw [k, f1, f3] at i
  generalize a4 - s * a3 + 2 * r * a2 - (t + r * s) * a1 + 3 * r * r - 2 * s * t = A at *
  clear k f1 f3
  grind
theorem m6_of {a1 a2 a3 a4 a6 e3 e6 w r t : Rat} (f3 : a3 + r * a1 + 2 * t = w * w * w * e3) (k : (a3 * a3 + 4 * a6) + 2 * r * (2 * a4 + a1 * a3) + r * r * (a1 * a1 + 4 * a2) + 4 * r * r * r = w ^ 6 * (e3 * e3 + 4 * e6)) : a6 + r * a4 + r * r * a2 + r * r * r - t * a3 - t * t - r * t * a1 = e6 * (w * w * w * (w * w * w)) := by
  have i : (a3 + r * a1 + 2 * t) * (a3 + r * a1 + 2 * t) + 4 * (a6 + r * a4 + r * r * a2 + r * r * r - t * a3 - t * t - r * t * a1) = (a3 * a3 + 4 * a6) + 2 * r * (2 * a4 + a1 * a3) + r * r * (a1 * a1 + 4 * a2) + 4 * r * r * r := by grind
  rw [k, f3] at i
  generalize a6 + r * a4 + r * r * a2 + r * r * r - t * a3 - t * t - r * t * a1 = A at *
  clear k f3
  grind
theorem led_due {c e : Cv} {w : Rat} (w0 : w ≠ 0) (h4 : (c.c4 : Rat) = w ^ 4 * (e.c4 : Rat)) (h6 : (c.c6 : Rat) = w ^ 6 * (e.c6 : Rat)) : qsL ⟨w, cR c e w, cS c e w, cT c e w⟩ c = e.ints.map fun n : Int => (n : Rat) := by
  have dv : ∀ {x y z : Rat}, y ≠ 0 → x = z * y → x / y = z := fun {x y z} h e => by rw [e, Rat.mul_div_cancel h]
  have fs : 2 * cS c e w = w * (e.a1 : Rat) - (c.a1 : Rat) := by
    unfold cS
    grind
  have fr : 3 * cR c e w = w * w * (e.a2 : Rat) - (c.a2 : Rat) + cS c e w * (c.a1 : Rat) + cS c e w * cS c e w := by
    unfold cR
    grind
  have ft : 2 * cT c e w = w * w * w * (e.a3 : Rat) - (c.a3 : Rat) - cR c e w * (c.a1 : Rat) := by
    unfold cT
    grind
  show [l1 _ _, l2 _ _ _, l3 _ _ _, l4 _ _ _ _ _, l6 _ _ _ _ _ _] = [((e.a1 : Int) : Rat), ((e.a2 : Int) : Rat), ((e.a3 : Int) : Rat), ((e.a4 : Int) : Rat), ((e.a6 : Int) : Rat)]
  unfold Cv.c4 Cv.b2 Cv.b4 at h4
  unfold Cv.c6 Cv.b2 Cv.b4 Cv.b6 at h6
  push_cast at h4 h6
  unfold l1 l2 l3 l4 l6
  simp only [List.cons.injEq, and_true]
  generalize cS c e w = s at *
  generalize cR c e w = r at *
  generalize cT c e w = t at *
  generalize (c.a1 : Rat) = a1 at *
  generalize (c.a2 : Rat) = a2 at *
  generalize (c.a3 : Rat) = a3 at *
  generalize (c.a4 : Rat) = a4 at *
  generalize (c.a6 : Rat) = a6 at *
  generalize (e.a1 : Rat) = e1 at *
  generalize (e.a2 : Rat) = e2 at *
  generalize (e.a3 : Rat) = e3 at *
  generalize (e.a4 : Rat) = e4 at *
  generalize (e.a6 : Rat) = e6 at *
  have u2 := qmul_ne w0 w0
  have u3 := qmul_ne u2 w0
  have u4 := qmul_ne u2 u2
  have u6 := qmul_ne u3 u3
  have k2 := k2_of fs fr
  have k4 := k4_of k2 h4
  have k6 := k6_of k2 k4 h6
  have f1 : a1 + 2 * s = w * e1 := by rw [fs]; clear k2 k4 k6 h4 h6 fs fr ft; grind
  have f3 : a3 + r * a1 + 2 * t = w * w * w * e3 := by rw [ft]; clear k2 k4 k6 h4 h6 fs fr ft; grind
  have f2 : a2 - s * a1 + 3 * r - s * s = w * w * e2 := by rw [fr]; clear k2 k4 k6 h4 h6 fs fr ft; grind
  have m4 := m4_of f1 f3 k4
  have m6 := m6_of f3 k6
  clear k2 k4 k6 h4 h6 fs fr ft
  exact ⟨dv w0 (by rw [f1, Rat.mul_comm]), dv u2 (by rw [f2, Rat.mul_comm]), dv u3 (by rw [f3, Rat.mul_comm]), dv u4 m4, dv u6 m6⟩
/-! ### one greatest scale, one least curve -/
theorem Lst.uniq {c4 c6 : Int} {v w : Nat} {d e : Cv} (h : Lst c4 c6 v d) (k : Lst c4 c6 w e) : v = w ∧ d = e := by
  have hv : v = w := Nat.dvd_antisymm ((k.all v).mp ((h.all v).mpr ⟨h.v0, Nat.dvd_refl v⟩)).2 ((h.all w).mp ((k.all w).mpr ⟨k.v0, Nat.dvd_refl w⟩)).2
  subst hv
  refine ⟨rfl, ?_⟩
  obtain ⟨x, y, e4, e6, hd⟩ := h.at_
  obtain ⟨x', y', f4, f6, he⟩ := k.at_
  have n4 : (v : Int) ^ 4 ≠ 0 := Int.pow_ne_zero (by have := h.v0; omega)
  have n6 : (v : Int) ^ 6 ≠ 0 := Int.pow_ne_zero (by have := h.v0; omega)
  obtain rfl : x = x' := Int.eq_of_mul_eq_mul_left n4 (e4.symm.trans f4)
  obtain rfl : y = y' := Int.eq_of_mul_eq_mul_left n6 (e6.symm.trans f6)
  exact Option.some.inj (hd.symm.trans he)
/-- a pair made greater has the same least curve -/
theorem Lst.up {c4 c6 : Int} {v : Nat} {d : Cv} {S : Nat} (hS : 0 < S) (h : Lst c4 c6 v d) : Lst ((S : Int) ^ 4 * c4) ((S : Int) ^ 6 * c6) (S * v) d := by
  obtain ⟨x, y, e4, e6, hd⟩ := h.at_
  have hp : IsP x y := isp_curve.mpr ⟨d, hd⟩
  refine ⟨Nat.mul_pos hS h.v0, fun u => ?_, x, y, ?_, ?_, hd⟩
  · have hz : ¬ (((S : Int) ^ 4 * c4) = 0 ∧ ((S : Int) ^ 6 * c6) = 0) := by
      rintro ⟨z4, z6⟩
      obtain ⟨p2, p3, pz⟩ := isp_to hp
      have n4 : (S : Int) ^ 4 ≠ 0 := Int.pow_ne_zero (by omega)
      have n6 : (S : Int) ^ 6 ≠ 0 := Int.pow_ne_zero (by omega)
      have v4 : (v : Int) ^ 4 ≠ 0 := Int.pow_ne_zero (by have := h.v0; omega)
      have v6 : (v : Int) ^ 6 ≠ 0 := Int.pow_ne_zero (by have := h.v0; omega)
      have y4 : c4 = 0 := (Int.mul_eq_zero.mp z4).resolve_left n4
      have y6 : c6 = 0 := (Int.mul_eq_zero.mp z6).resolve_left n6
      rw [y4] at e4
      rw [y6] at e6
      have x4 : x = 0 := (Int.mul_eq_zero.mp e4.symm).resolve_left v4
      have x6 : y = 0 := (Int.mul_eq_zero.mp e6.symm).resolve_left v6
      exact pz (by rw [x4, x6]; rfl)
    have hSv : Lets ((S : Int) ^ 4 * c4) ((S : Int) ^ 6 * c6) (S * v) := ⟨Nat.mul_pos hS h.v0, x, y, by rw [e4, Int.natCast_mul]; grind, by rw [e6, Int.natCast_mul]; grind, hp⟩
    obtain ⟨w, lw, hw⟩ := lets_of hz (hSv.dvd (Nat.one_dvd _))
    have d1 : S * v ∣ w := ((hw _).mp hSv).2
    obtain ⟨k, rfl⟩ := d1
    have lk : Lets c4 c6 (v * k) := by
      obtain ⟨w0, a, b, f4, f6, ha⟩ := lw
      refine ⟨Nat.pos_of_ne_zero fun z => by rw [Nat.mul_assoc, z, Nat.mul_zero] at w0; omega, a, b, ?_, ?_, ha⟩
      · have n4 : (S : Int) ^ 4 ≠ 0 := Int.pow_ne_zero (by omega)
        apply Int.eq_of_mul_eq_mul_left n4
        rw [f4, Int.natCast_mul, Int.natCast_mul, Int.natCast_mul]
        grind
      · have n6 : (S : Int) ^ 6 ≠ 0 := Int.pow_ne_zero (by omega)
        apply Int.eq_of_mul_eq_mul_left n6
        rw [f6, Int.natCast_mul, Int.natCast_mul, Int.natCast_mul]
        grind
    have d2 : v * k ∣ v := ((h.all _).mp lk).2
    have k1 : k = 1 := by
      have := Nat.le_of_dvd h.v0 d2
      have v0 := h.v0
      have k0 : 0 < k := Nat.pos_of_ne_zero fun z => by
        rw [z, Nat.mul_zero] at d2
        have := Nat.eq_zero_of_zero_dvd d2
        omega
      rcases (show k = 1 ∨ 2 ≤ k by omega) with z | z
      · exact z
      · have := Nat.mul_le_mul_left v z
        omega
    rw [k1, Nat.mul_one] at hw
    exact hw u
  · rw [e4, Int.natCast_mul]
    grind
  · rw [e6, Int.natCast_mul]
    grind
theorem Lst.self {c4 c6 : Int} {v : Nat} {d : Cv} (h : Lst c4 c6 v d) : Lst d.c4 d.c6 1 d := by
  obtain ⟨x, y, e4, e6, hd⟩ := h.at_
  obtain ⟨hr, f4, f6, hdd⟩ := curve_some hd
  have hc := curve_rc hr hdd
  refine ⟨by decide, fun u => ⟨fun hu => ?_, fun hu => ?_⟩, d.c4, d.c6, by simp, by simp, hc⟩
  · refine ⟨hu.1, ?_⟩
    obtain ⟨u0, a, b, g4, g6, ha⟩ := hu
    have lk : Lets c4 c6 (v * u) := by
      refine ⟨Nat.mul_pos h.v0 u0, a, b, ?_, ?_, ha⟩
      · rw [e4, ← f4, g4, Int.natCast_mul]
        grind
      · rw [e6, ← f6, g6, Int.natCast_mul]
        grind
    have d2 := ((h.all _).mp lk).2
    have := Nat.le_of_dvd h.v0 d2
    have v0 := h.v0
    rcases (show u = 1 ∨ 2 ≤ u by omega) with z | z
    · rw [z]
      exact Nat.dvd_refl 1
    · have := Nat.mul_le_mul_left v z
      omega
  · obtain rfl : u = 1 := Nat.dvd_one.mp hu.2
    exact ⟨by decide, d.c4, d.c6, by simp, by simp, isp_curve.mpr ⟨d, hc⟩⟩
theorem Lst.disc {c : Cv} {v : Nat} {d : Cv} (h : Lst c.c4 c.c6 v d) : d.disc * (v : Int) ^ 12 = c.disc := by
  obtain ⟨h4, h6, -⟩ := h.nums
  have e1 := disc_eq c
  have e2 := disc_eq d
  rw [h4, h6] at e1
  have : 1728 * (d.disc * (v : Int) ^ 12) = 1728 * c.disc := by
    rw [e1]
    have : 1728 * (d.disc * (v : Int) ^ 12) = (1728 * d.disc) * (v : Int) ^ 12 := by grind
    rw [this, e2]
    grind
  omega
end K13
set_option Elab.async false
set_option linter.all false
set_option maxRecDepth 100000
set_option maxHeartbeats 4000000
namespace K13
open PySem PySem.Spec PyProof.Rows L2 Gd QM
theorem ix_tupK {X : Cx} {K : PySem.W.Frag} (h : X.K = K) : IxR X (rIxT K) := h ▸ ix_tup
/-- what the law's own look asks of a curve -/
structure Cv.Lk (c : Cv) : Prop where
  ok : c.Ok
  b : CvB 40 c
theorem prt_i {K : PySem.W.Frag} {H : Hp} {p : Addr} {n d : Int} {m : Nat} (h : H p = some (.tup [.int n, .int d])) (d0 : d ≠ 0) (hn : B m n) (hd : B m d) : PrT K H p (Rat.divInt n d) m := ⟨n, d, tup_of h, d0, rfl, hn, hd⟩
theorem PrT.but2 {K : PySem.W.Frag} {H H' : Hp} {m cl p : Addr} {n : Nat} {q : Rat} {k : Nat} (b : But m H H') (hM : MAt H m cl n) (h : PrT K H p q k) : PrT K H' p q k := by
  obtain ⟨x, d, h1, h2⟩ := h
  exact ⟨x, d, b.seqT hM h1, h2⟩
section
variable {P : Program} {w : World} {K : PySem.W.Frag} {mg : Str → Option Value} {base : Heap}
def sp_law_moved (K : PySem.W.Frag) : Sp := fun vs H Q _ => ∃ (m cl p : Addr) (c : Cv) (S : Int) (n : Nat), vs = [.ref m, .ref p, .int S] ∧ n ≤ 1000 ∧ MAt H m cl n ∧ SqT K H p c.tup ∧ c.Tn ∧ 1 ≤ S ∧ S ≤ 6 ∧
  ∀ H' t r s z, But m H H' → MAt H' m cl (n + 3) → SqT K H' t (mvd S r s z c).tup → -3 ≤ r → r ≤ 3 → -2 ≤ s → s ≤ 2 → -3 ≤ z → z ≤ 3 → Q (.ref t) H'
abbrev s__law_moved : Stmt := topS 68
theorem sc__law_moved : FnScope ["m", "five_v", "scale", "change", "part"] ["m", "five_v", "scale"] (defScope s__law_moved) := ⟨rfl, rfl, rfl, by decide +kernel, rfl, by decide +kernel, by decide +kernel⟩
theorem k_law_moved (T : Tx K mg) (D : Df K mg "_law_moved" s__law_moved ["m", "five_v", "scale"]) (c_law_between : Kl P w K mg base 2 "_law_between" (sp_law_between K)) (c_law_led : Kl P w K mg base 4 "_law_led" (sp_law_led K)) : Kl P w K mg base 5 "_law_moved" (sp_law_moved K) := by
  have nd := sc__law_moved.nd
  refine Kl.by_body D sc__law_moved (fun vs H Q E h => ?_) (fun f cdv A outer s H vs Q E hr h => ?_)
  · obtain ⟨_, _, _, _, _, _, rfl, _⟩ := h
    rfl
  · obtain ⟨m, cl, p, c, S, n, rfl, hn, hM, hp, hT, S0, S1, q⟩ := h
    have hu1 := hu_of hr
    refine ⟨_, (pss_cons (ps_set (i := 3) nd rfl (by first | exact Or.inl rfl | exact Or.inr rfl) (pe_tup (pa_cons (pe_tup (pa_cons pe_int (pa_cons (pv 2) pa_nil))) (pa_cons (pe_tup (pa_cons (pe_k c_law_between  hr (by decide) (by rfl) (pa_cons (pv 0) (pa_cons pe_int pa_nil))) (pa_cons (pe_op op_mulW (pv 2) (pv 2)) pa_nil))) (pa_cons (pe_tup (pa_cons (pe_k c_law_between  hr (by decide) (by rfl) (pa_cons (pv 0) (pa_cons pe_int pa_nil))) (pa_cons (pv 2) pa_nil))) (pa_cons (pe_tup (pa_cons (pe_k c_law_between  hr (by decide) (by rfl) (pa_cons (pv 0) (pa_cons pe_int pa_nil))) (pa_cons (pe_op op_pow (pv 2) pe_int) pa_nil))) pa_nil))))))
      (pss_one (ps_ret (pe_callTy call_tuple_of (by rfl) T.tuple (by decide +kernel) (pa_cons (pe_lc (own := [("part", 4)]) (g := gName 4) rfl nd (pi_tup (pe_k c_law_led  hr (by decide) (by rfl) (pa_cons (pv 1) (pa_cons (pv 3) pa_nil)))) (blkOk_by (N := ["m", "five_v", "scale", "change", "part"]) (sc := defScope s__law_moved) (by decide +kernel)) (fun _ _ _ _ _ => (pg_name (i := 4) nd rfl (by first | exact Or.inl rfl | exact Or.inr rfl))) (fun _ _ _ _ _ => pts_nil) (fun _ _ _ _ _ => (pe_ix (ix_tupK (K := K) rfl) (pv 4) pe_int (fun _ _ => rfl)))) pa_nil))))), ?_⟩
    have SB : B 3 S := by
      unfold B
      omega
    have Snz : S ≠ 0 := by omega
    refine ⟨_, rfl, (by show 2 ≤ sizeLine; decide), fun t1 n1 => ?_⟩
    have s1 := Same.new (H := H) (p := t1) (o := .tup [.int 1, .int S]) n1
    have g1 : upd H t1 (.tup [.int 1, .int S]) t1 = some (.tup [.int 1, .int S]) := upd_same
    generalize upd H t1 (.tup [.int 1, .int S]) = H1 at s1 g1 ⊢
    refine ⟨_, rfl, m, cl, 3, n, rfl, by decide, by decide, by omega, hM.same s1, fun H2 r b2 m2 r0 r1 => ?_⟩
    refine ⟨_, rfl, _, rfl, _, _, rfl, rfl, SB.mulW SB (by decide), (by show 2 ≤ sizeLine; decide), fun t2 n2 => ?_⟩
    have s3 := Same.new (H := H2) (p := t2) (o := .tup [.int r, .int (S * S)]) n2
    have g3 : upd H2 t2 (.tup [.int r, .int (S * S)]) t2 = some (.tup [.int r, .int (S * S)]) := upd_same
    generalize upd H2 t2 (.tup [.int r, .int (S * S)]) = H3 at s3 g3 ⊢
    refine ⟨_, rfl, m, cl, 2, n + 1, rfl, by decide, by decide, by omega, m2.same s3, fun H4 s b4 m4 u0 u1 => ?_⟩
    refine ⟨_, rfl, (by show 2 ≤ sizeLine; decide), fun t3 n3 => ?_⟩
    have s5 := Same.new (H := H4) (p := t3) (o := .tup [.int s, .int S]) n3
    have g5 : upd H4 t3 (.tup [.int s, .int S]) t3 = some (.tup [.int s, .int S]) := upd_same
    generalize upd H4 t3 (.tup [.int s, .int S]) = H5 at s5 g5 ⊢
    refine ⟨_, rfl, m, cl, 3, n + 1 + 1, rfl, by decide, by decide, by omega, m4.same s5, fun H6 z b6 m6 z0 z1 => ?_⟩
    refine ⟨_, rfl, _, _, rfl, rfl, ⟨by decide, by decide, SB.up (by decide)⟩, (by show 2 ≤ sizeLine; decide), fun t4 n4 => ?_⟩
    rw [show upd H6 t4 (.tup [.int z, (fun i j : Int => V.int (i ^ j.toNat)) S 3]) = upd H6 t4 (.tup [.int z, .int (S ^ 3)]) from rfl]
    have s7 := Same.new (H := H6) (p := t4) (o := .tup [.int z, .int (S ^ 3)]) n4
    have g7 : upd H6 t4 (.tup [.int z, .int (S ^ 3)]) t4 = some (.tup [.int z, .int (S ^ 3)]) := upd_same
    generalize upd H6 t4 (.tup [.int z, .int (S ^ 3)]) = H7 at s7 g7 ⊢
    refine ⟨(by show 4 ≤ sizeLine; decide), fun tc ntc => ?_⟩
    have s8 := Same.new (H := H7) (p := tc) (o := .tup [.ref t1, .ref t2, .ref t3, .ref t4]) ntc
    have g8 : upd H7 tc (.tup [.ref t1, .ref t2, .ref t3, .ref t4]) tc = some (.tup [.ref t1, .ref t2, .ref t3, .ref t4]) := upd_same
    generalize upd H7 tc (.tup [.ref t1, .ref t2, .ref t3, .ref t4]) = H8 at s8 g8 ⊢
    first | refine sigN [some (.ref m), some (.ref p), some (.int (S)), some (.ref tc), none] (by rfl) ?_ | refine sig [some (.ref m), some (.ref p), some (.int (S)), some (.ref tc), none] (by rfl) ?_
    have rB : B 2 r := by
      unfold B
      omega
    have sB : B 2 s := by
      unfold B
      omega
    have zB : B 2 z := by
      unfold B
      omega
    have s78 := s7.trans s8
    have k1 : PrT K H8 t1 (Rat.divInt 1 S) 16 := ((((prt_i (K := K) (m := 16) g1 Snz (B.lit (by decide)) (SB.up (by decide))).but2 b2 (hM.same s1)).same s3).but2 b4 (m2.same s3)).same s5 |>.but2 b6 (m4.same s5) |>.same s78
    have k2 : PrT K H8 t2 (Rat.divInt r (S * S)) 16 := ((prt_i (K := K) (m := 16) g3 (Int.mul_ne_zero Snz Snz) (rB.up (by decide)) ((SB.mul SB).up (by decide))).but2 b4 (m2.same s3)).same s5 |>.but2 b6 (m4.same s5) |>.same s78
    have k3 : PrT K H8 t3 (Rat.divInt s S) 16 := (prt_i (K := K) (m := 16) g5 Snz (sB.up (by decide)) (SB.up (by decide))).but2 b6 (m4.same s5) |>.same s78
    have k4 : PrT K H8 t4 (Rat.divInt z (S ^ 3)) 16 := (prt_i (K := K) (m := 16) g7 (Int.pow_ne_zero Snz) (zB.up (by decide)) ((SB.pow 3).up (by decide))).same s8
    have hch : ChG K H8 tc (chM S r s z) := ⟨t1, t2, t3, t4, tup_of g8, k1, k2.up (by decide), k3.up (by decide), k4.up (by decide)⟩
    have hcb : CvB 40 c := ⟨by have := hT.h1; unfold B; omega, by have := hT.h2; unfold B; omega, by have := hT.h3; unfold B; omega, by have := hT.h4; unfold B; omega, by have := hT.h6; unfold B; omega⟩
    have hp8 : SqT K H8 p c.tup := Same.tup s78 (b6.seqT (m4.same s5) (Same.tup s5 (b4.seqT (m2.same s3) (Same.tup s3 (b2.seqT (hM.same s1) (Same.tup s1 hp))))))
    have bA : But m H H8 := (But.of s1).trans (b2.trans ((But.of s3).trans (b4.trans ((But.of s5).trans (b6.trans (But.of s78))))))
    have mA : MAt H8 m cl (n + 3) := (m6.same s78).up (by omega)
    have unz : (chM S r s z).u ≠ 0 := by
      show Rat.divInt 1 S ≠ 0
      rw [Rat.divInt_eq_div]
      have hq : (S : Rat) ≠ 0 := fun y => Snz (by exact_mod_cast y)
      intro y
      have hu : ((1 : Int) : Rat) / (S : Rat) * (S : Rat) = ((1 : Int) : Rat) := by rw [Rat.div_mul_cancel hq]
      rw [y, Rat.zero_mul] at hu
      cases hu
    refine ⟨_, rfl, _, rfl, p, tc, c, chM S r s z, rfl, hp8, hcb, hch, unz, fun H9 t xs s9 gt hrf => ?_⟩
    refine ⟨t, rfl, ⟨_, tup_of gt⟩, fun D hD => ?_⟩
    refine lc_tup (K := K) (a := t) (xs := xs) (fun i HA => Same H9 HA ∧ HA D = some (.lst (((qsL (chM S r s z) c).take i).map fun q => V.int q.num))) ⟨Same.new hD, upd_same⟩ (fun i HA _ y => tup_of (y.1 _ _ gt)) (fun i x HA hi y => ?_) (fun HA y => ?_)
    · obtain ⟨sA, gD⟩ := y
      obtain ⟨a, qq, rfl, hqi, ha⟩ := hrf.2 i x hi
      have hi5 : i < 5 := by
        have := (List.getElem?_eq_some_iff.mp hqi).1
        exact this
      refine ⟨rfl, .ref a, rfl, a, _, 0, .int qq.num, rfl, rfl, Same.tup sA ha, rfl, _, gD, ?_, Same.put sA hD, ?_⟩
      · rw [List.length_map, List.length_take]
        exact small1000 (by omega)
      · rw [upd_same, take_map _ hqi]
    · obtain ⟨sA, gD⟩ := y
      have e5 : (qsL (chM S r s z) c).take xs.length = qsL (chM S r s z) c := by
        rw [List.take_of_length_le]
        rw [hrf.1]
        exact Nat.le_refl _
      rw [e5, mvd_whole Snz] at gD
      refine ⟨D, _, rfl, .inl ⟨lst_of gD, fun t5 n5 => ?_⟩⟩
      have sZ := Same.new (H := HA) (p := t5) (o := .tup (mvd S r s z c).tup) n5
      have sT := s9.trans (sA.trans sZ)
      exact q _ t5 r s z (bA.trans (But.of sT)) (mA.same sT) (tup_of upd_same) r0 r1 u0 u1 z0 z1
end
end K13
set_option Elab.async false
set_option linter.all false
set_option maxRecDepth 100000
/-! a if t else b as a test -/
namespace PtI
open PySem PySem.Spec PyProof.Rows L2
def tIfT (t ta tb : TT) : TT := fun σ H Q => t σ H fun c H1 => if c = true then ta σ H1 Q else tb σ H1 Q
theorem pt_ifExp {X : Cx} {c a b : Expr} {pos : Pos} {tA ta tb : TT} (hc : PT X c tA) (ha : PT X a ta) (hb : PT X b tb) : PT X (.IfExp c a b pos) (tIfT tA ta tb) := by
  refine ⟨fun pins s σ H Q I h => ?_⟩
  refine PyProof.Rows.isTrue_IfExp (thn (hc.run pins s σ H _ I h) fun d s1 ⟨H1, I1, q1⟩ => ?_)
  cases d with
  | true => exact ha.run pins s1 σ H1 Q I1 q1
  | false => exact hb.run pins s1 σ H1 Q I1 q1
end PtI
set_option Elab.async false
set_option linter.all false
set_option maxRecDepth 100000
set_option maxHeartbeats 4000000
namespace K13
open PySem PySem.Spec PyProof.Rows L2 Gd QM
/-- the divisors of w up to n -/
def dvs (w n : Nat) : List V := ((List.range n).filter fun i => decide (w % (i + 1) = 0)).map fun i => V.int ((i + 1 : Nat) : Int)
theorem dvs_yes {w n : Nat} (h : n + 1 ∣ w) : dvs w (n + 1) = dvs w n ++ [.int ((n + 1 : Nat) : Int)] := by
  unfold dvs
  rw [List.range_succ, List.filter_append, List.map_append, List.filter_cons_of_pos (by simpa using Nat.mod_eq_zero_of_dvd h)]
  rfl
theorem dvs_no {w n : Nat} (h : ¬ n + 1 ∣ w) : dvs w (n + 1) = dvs w n := by
  unfold dvs
  rw [List.range_succ, List.filter_append, List.filter_cons_of_neg (by simpa using fun e => h (Nat.dvd_of_mod_eq_zero e)), List.filter_nil, List.append_nil]
theorem dvs_len (w : Nat) : ∀ n, (dvs w n).length ≤ n
  | 0 => Nat.le_refl _
  | n + 1 => by
    by_cases h : n + 1 ∣ w
    · rw [dvs_yes h, List.length_append]
      exact Nat.add_le_add_right (dvs_len w n) 1
    · rw [dvs_no h]
      exact Nat.le_succ_of_le (dvs_len w n)
theorem dvs_far {w : Nat} (w0 : 0 < w) : ∀ k, dvs w (w + k) = dvs w w
  | 0 => rfl
  | k + 1 => by
    rw [show w + (k + 1) = w + k + 1 by omega, dvs_no (fun h => by have := Nat.le_of_dvd w0 h; omega), dvs_far w0 k]
theorem dvs_ge {w n : Nat} (w0 : 0 < w) (h : w ≤ n) : dvs w n = dvs w w := by
  obtain ⟨k, rfl⟩ := Nat.le.dest h
  exact dvs_far w0 k
theorem pair_ne {x y : Int} : pairN x y 12 ≠ [] ↔ IsP x y := by
  constructor
  · intro h
    obtain ⟨c, hc⟩ := List.exists_mem_of_ne_nil _ h
    obtain ⟨hr, e4, e6, hd⟩ := pair_mem (Nat.le_refl _) hc
    exact ⟨c, hr, e4, e6, hd⟩
  · rintro ⟨c, hr, e4, e6, hd⟩
    rw [← e4, ← e6, pair_one hr hd]
    intro z
    cases z
theorem let_is {c4 c6 : Int} {u : Nat} (u0 : 0 < u) : Lets c4 c6 u ↔ (c4 % (u : Int) ^ 4 = 0 ∧ c6 % (u : Int) ^ 6 = 0 ∧ pairN (c4 / (u : Int) ^ 4) (c6 / (u : Int) ^ 6) 12 ≠ []) := by
  have n4 : (u : Int) ^ 4 ≠ 0 := Int.pow_ne_zero (by omega)
  have n6 : (u : Int) ^ 6 ≠ 0 := Int.pow_ne_zero (by omega)
  constructor
  · rintro ⟨_, x, y, rfl, rfl, hp⟩
    refine ⟨Int.mul_emod_right _ _, Int.mul_emod_right _ _, ?_⟩
    rw [Int.mul_ediv_cancel_left _ n4, Int.mul_ediv_cancel_left _ n6]
    exact pair_ne.mpr hp
  · rintro ⟨h4, h6, hp⟩
    exact ⟨u0, _, _, (Int.mul_ediv_cancel' (Int.dvd_of_emod_eq_zero h4)).symm, (Int.mul_ediv_cancel' (Int.dvd_of_emod_eq_zero h6)).symm, pair_ne.mp hp⟩
theorem p4_le {u n : Nat} (h : u ^ 4 ≤ n) (k : n ≤ 1000000000) : u ≤ 177 := by
  rcases Nat.lt_or_ge u 178 with z | z
  · omega
  · have := Nat.pow_le_pow_left z 4
    omega
theorem p6_le {u n : Nat} (h : u ^ 6 ≤ n) (k : n ≤ 10000000000000) : u ≤ 177 := by
  rcases Nat.lt_or_ge u 178 with z | z
  · omega
  · have := Nat.pow_le_pow_left z 6
    omega
theorem let_p4 {c4 c6 : Int} {u : Nat} (h : Lets c4 c6 u) (z : c4 ≠ 0) : u ^ 4 ≤ c4.natAbs := by
  obtain ⟨_, x, y, e4, -, -⟩ := h
  have : c4.natAbs = u ^ 4 * x.natAbs := by rw [e4, Int.natAbs_mul, Int.natAbs_pow, Int.natAbs_natCast]
  rw [this]
  exact Nat.le_mul_of_pos_right _ (Nat.pos_of_ne_zero fun q => z (by rw [e4, Int.natAbs_eq_zero.mp q, Int.mul_zero]))
theorem let_p6 {c4 c6 : Int} {u : Nat} (h : Lets c4 c6 u) (z : c6 ≠ 0) : u ^ 6 ≤ c6.natAbs := by
  obtain ⟨_, x, y, -, e6, -⟩ := h
  have : c6.natAbs = u ^ 6 * y.natAbs := by rw [e6, Int.natAbs_mul, Int.natAbs_pow, Int.natAbs_natCast]
  rw [this]
  exact Nat.le_mul_of_pos_right _ (Nat.pos_of_ne_zero fun q => z (by rw [e6, Int.natAbs_eq_zero.mp q, Int.mul_zero]))
/-- the test of the loop -/
def gos (c4 c6 : Int) (u : Nat) : Bool := if c4 ≠ 0 then decide (u ^ 4 ≤ c4.natAbs) else decide (u ^ 6 ≤ c6.natAbs)
theorem gos_le {c4 c6 : Int} {u : Nat} (h : gos c4 c6 u = true) (k4 : c4.natAbs ≤ 1000000000) (k6 : c6.natAbs ≤ 10000000000000) : u ≤ 177 := by
  unfold gos at h
  split at h
  · exact p4_le (of_decide_eq_true h) k4
  · exact p6_le (of_decide_eq_true h) k6
theorem gos_no {c4 c6 : Int} {u w : Nat} (h : gos c4 c6 u = false) (hz : ¬ (c4 = 0 ∧ c6 = 0)) (hw : Lets c4 c6 w) : w < u := by
  unfold gos at h
  rcases Nat.lt_or_ge w u with z | z
  · exact z
  · exfalso
    split at h
    · rename_i q
      have := Nat.pow_le_pow_left z 4
      exact of_decide_eq_false h (Nat.le_trans this (let_p4 hw q))
    · rename_i q
      have := Nat.pow_le_pow_left z 6
      exact of_decide_eq_false h (Nat.le_trans this (let_p6 hw (fun e => hz ⟨Decidable.not_not.mp q, e⟩)))
theorem c_le {x : Int} {n : Nat} {u : Nat} {k : Nat} : ((u : Int) ^ k ≤ (x.natAbs : Int)) ↔ u ^ k ≤ x.natAbs := by
  rw [← Int.natCast_pow, Int.ofNat_le]
section
variable {P : Program} {w : World} {K : PySem.W.Frag} {mg : Str → Option Value} {base : Heap}
def sp_law_lets (K : PySem.W.Frag) : Sp := fun vs H Q _ => ∃ c4 c6 : Int, vs = [.int c4, .int c6] ∧ ¬ (c4 = 0 ∧ c6 = 0) ∧ c4.natAbs ≤ 1000000000 ∧ c6.natAbs ≤ 10000000000000 ∧ IsP c4 c6 ∧ ∀ H' D w, Same H H' → (∀ u, Lets c4 c6 u ↔ 0 < u ∧ u ∣ w) → 0 < w → w ≤ 177 → H' D = some (.lst (dvs w w)) → Q (.ref D) H'
abbrev s__law_lets : Stmt := topS 69
theorem sc__law_lets : FnScope ["c4", "c6", "found", "u"] ["c4", "c6"] (defScope s__law_lets) := ⟨rfl, rfl, rfl, by decide +kernel, rfl, by decide +kernel, by decide +kernel⟩
theorem k_law_lets (T : Tx K mg) (D : Df K mg "_law_lets" s__law_lets ["c4", "c6"]) (c_law_pair : Kl P w K mg base 2 "_law_pair" (sp_law_pair K)) : Kl P w K mg base 3 "_law_lets" (sp_law_lets K) := by
  have nd := sc__law_lets.nd
  refine Kl.by_body D sc__law_lets (fun vs H Q E h => ?_) (fun f cdv A outer s H vs Q E hr h => ?_)
  · obtain ⟨_, _, rfl, _⟩ := h
    rfl
  · obtain ⟨c4, c6, rfl, hz, k4, k6, hp, q⟩ := h
    have hu1 := hu_of hr
    refine ⟨_, (pss_cons (ps_par (i := 2) (j := 3) (by rfl) nd rfl rfl (by decide) rfl rfl (pa_cons (pe_lst pa_nil) (pa_cons pe_int pa_nil)) (by rfl))
      (pss_cons (ps_while PassesOwn.never (PtI.pt_ifExp (pt_cmpR op_ne (pv 0) pe_int (nomark _)) (pt_cmpR op_le (pe_op op_pow (pv 3) pe_int) (pe_callB call_abs (by rfl) T.abs (by decide +kernel) (pa_cons (pv 0) pa_nil)) (nomark _)) (pt_cmpR op_le (pe_op op_pow (pv 3) pe_int) (pe_callB call_abs (by rfl) T.abs (by decide +kernel) (pa_cons (pv 1) pa_nil)) (nomark _))) (pss_cons (ps_if (PW.pt (pw_and (pt_cmpR op_eq (pe_op op_mod (pe_callTy call_intI (by rfl) T.int (by decide +kernel) (pa_cons (pv 0) pa_nil)) (pe_op op_pow (pv 3) pe_int)) pe_int (nomark _)) (pw_and (pt_cmpR op_eq (pe_op op_mod (pe_callTy call_intI (by rfl) T.int (by decide +kernel) (pa_cons (pv 1) pa_nil)) (pe_op op_pow (pv 3) pe_int)) pe_int (nomark _)) (pw_and1 (pt_cmpR (op_neD hr.units) (pe_k c_law_pair  hr (by decide) (by rfl) (pa_cons (pe_op op_fdivAny (pv 0) (pe_op op_pow (pv 3) pe_int)) (pa_cons (pe_op op_fdivAny (pv 1) (pe_op op_pow (pv 3) pe_int)) pa_nil))) (pe_lst pa_nil) (nomark _)))))) (pss_one (ps_expr (pe_bm PySem.F.plainAttrs_list PySem.F.slot_list_append PySem.F.type_list_append mt_append (pv 2) (pa_cons (pv 3) pa_nil)))) pss_nil)
      (pss_one (ps_set (i := 3) nd rfl (by first | exact Or.inl rfl | exact Or.inr rfl) (pe_op op_add (pv 3) pe_int)))))
      (pss_one (ps_ret (pv 2))))), ?_⟩
    obtain ⟨w, lw, hw⟩ := lets_of hz (show Lets c4 c6 1 from ⟨by decide, c4, c6, by simp, by simp, hp⟩)
    have w0 : 0 < w := lw.1
    have B4 : B 30 c4 := by
      unfold B
      omega
    have B6 : B 44 c6 := by
      unfold B
      omega
    have w177 : w ≤ 177 := by
      by_cases z : c4 = 0
      · exact p6_le (let_p6 lw (fun e => hz ⟨z, e⟩)) k6
      · exact p4_le (let_p4 lw z) k4
    refine ⟨(by show 0 ≤ sizeLine; decide), fun D nD => ?_⟩
    have s1 := Same.new (H := H) (p := D) (o := .lst []) nD
    have gD : upd H D (.lst []) D = some (.lst []) := upd_same
    generalize upd H D (.lst []) = H1 at s1 gD ⊢
    refine ⟨_, _, rfl, ?_⟩
    first | refine sigN [some (.int (c4)), some (.int (c6)), some (.ref D), some (.int (1))] (by rfl) ?_ | refine sig [some (.int (c4)), some (.int (c6)), some (.ref D), some (.int (1))] (by rfl) ?_
    refine while_by (fun σ H2 => But D H1 H2 ∧ ∃ n : Nat, σ = [some (.int c4), some (.int c6), some (.ref D), some (.int ((n + 1 : Nat) : Int))] ∧ n ≤ 177 ∧ H2 D = some (.lst (dvs w n)))
      (fun σ _ => match σ with | [_, _, _, some (.int u)] => (200 - u).toNat | _ => 0) ⟨But.refl _ _, 0, rfl, by decide, gD⟩ ?_ ?_
    · rintro σ H2 ⟨b2, n, rfl, hn, g2⟩

      have uB : B 8 ((n + 1 : Nat) : Int) := by
        unfold B
        omega
      have u0 : ((n + 1 : Nat) : Int) ≠ 0 := by omega
      have pos4 : (0 : Int) < ((n + 1 : Nat) : Int) ^ 4 := Int.pow_pos (by omega)
      have pos6 : (0 : Int) < ((n + 1 : Nat) : Int) ^ 6 := Int.pow_pos (by omega)
      have b4B : B 33 (((n + 1 : Nat) : Int) ^ 4) := (uB.pow 4).up (by decide)
      have b6B : B 49 (((n + 1 : Nat) : Int) ^ 6) := (uB.pow 6).up (by decide)
      refine ⟨_, rfl, rfl, _, rfl, ite2 (fun z => ?A) (fun z => ?B)⟩
      case' A =>
        have z' : c4 ≠ 0 := by simpa using z
        refine ⟨_, rfl, _, _, rfl, rfl, ⟨by decide, by decide, uB.up (by decide)⟩, _, rfl, c4, rfl, _, _, rfl, rfl, _, rfl, ?_⟩
        have eg : decide (((n + 1 : Nat) : Int) ^ 4 ≤ (if c4 < 0 then -c4 else c4)) = gos c4 c6 (n + 1) := by
          unfold gos
          rw [if_pos z', abs_eq, Bool.eq_iff_iff, decide_eq_true_iff, decide_eq_true_iff]
          exact c_le (n := 0)
      case' B =>
        have z' : c4 = 0 := by simpa using z
        refine ⟨_, rfl, _, _, rfl, rfl, ⟨by decide, by decide, uB.up (by decide)⟩, _, rfl, c6, rfl, _, _, rfl, rfl, _, rfl, ?_⟩
        have eg : decide (((n + 1 : Nat) : Int) ^ 6 ≤ (if c6 < 0 then -c6 else c6)) = gos c4 c6 (n + 1) := by
          rw [abs_eq]
          unfold gos
          rw [if_neg (by simpa using z'), Bool.eq_iff_iff, decide_eq_true_iff, decide_eq_true_iff]
          exact c_le (n := 0)
      all_goals
        cases hg : gos c4 c6 (n + 1) with
        | false =>
          rw [hg] at eg
          refine iteN (fun y => Bool.noConfusion (eg.symm.trans y)) ?_
          have hlt := gos_no hg hz lw
          rw [dvs_ge w0 (show w ≤ n by omega)] at g2
          exact ⟨_, rfl, q H2 D w (But.same s1 b2 nD) hw w0 w177 g2⟩
        | true =>
          rw [hg] at eg
          have u177 := gos_le hg k4 k6
          refine iteY eg ?_
          have adv : ∀ H3, But D H2 H3 → H3 D = some (.lst (dvs w (n + 1))) → (But D H1 H3 ∧ ∃ k : Nat, [some (V.int c4), some (.int c6), some (.ref D), some (.int ((n + 1 + 1 : Nat) : Int))] = [some (V.int c4), some (.int c6), some (.ref D), some (.int ((k + 1 : Nat) : Int))] ∧ k ≤ 177 ∧ H3 D = some (.lst (dvs w k))) ∧ (200 - ((n + 1 + 1 : Nat) : Int)).toNat < (200 - ((n + 1 : Nat) : Int)).toNat := fun H3 b3 g3 =>
            ⟨⟨b2.trans b3, n + 1, rfl, u177, g3⟩, by omega⟩
          have no : ¬ Lets c4 c6 (n + 1) → dvs w (n + 1) = dvs w n := fun h => dvs_no fun d => h ((hw _).mpr ⟨by omega, d⟩)
          refine ⟨_, rfl, c4, rfl, _, rfl, _, _, rfl, rfl, ⟨by decide, by decide, uB.up (by decide)⟩, _, _, rfl, rfl, pos4, rfl, _, rfl, ?_⟩
          rw [dec_int]
          by_cases d4 : c4 % ((n + 1 : Nat) : Int) ^ 4 = 0
          case neg =>
            refine iteN (fun y => d4 (of_decide_eq_true y)) ?_
            have e := no fun h => d4 ((let_is (by omega)).mp h).1
            refine ⟨_, rfl, _, _, rfl, rfl, ?_⟩
            exact adv H2 (But.refl _ _) (by rw [e]; exact g2)
          refine iteY (decide_eq_true d4) ?_
          refine ⟨_, rfl, c6, rfl, _, rfl, _, _, rfl, rfl, ⟨by decide, by decide, uB.up (by decide)⟩, _, _, rfl, rfl, pos6, rfl, _, rfl, ?_⟩
          rw [dec_int]
          by_cases d6 : c6 % ((n + 1 : Nat) : Int) ^ 6 = 0
          case neg =>
            refine iteN (fun y => d6 (of_decide_eq_true y)) ?_
            have e := no fun h => d6 ((let_is (by omega)).mp h).2.1
            refine ⟨_, rfl, _, _, rfl, rfl, ?_⟩
            exact adv H2 (But.refl _ _) (by rw [e]; exact g2)
          refine iteY (decide_eq_true d6) ?_
          have f4 : c4.fdiv (((n + 1 : Nat) : Int) ^ 4) = c4 / ((n + 1 : Nat) : Int) ^ 4 := Int.fdiv_eq_ediv_of_nonneg _ (by omega)
          have f6 : c6.fdiv (((n + 1 : Nat) : Int) ^ 6) = c6 / ((n + 1 : Nat) : Int) ^ 6 := Int.fdiv_eq_ediv_of_nonneg _ (by omega)
          have bx : B 59 (c4.fdiv (((n + 1 : Nat) : Int) ^ 4)) := by
            rw [f4]
            have := Int.natAbs_ediv_le_natAbs c4 (((n + 1 : Nat) : Int) ^ 4)
            unfold B
            omega
          have bY : B 104 (c6.fdiv (((n + 1 : Nat) : Int) ^ 6)) := by
            rw [f6]
            have := Int.natAbs_ediv_le_natAbs c6 (((n + 1 : Nat) : Int) ^ 6)
            unfold B
            omega
          have hlet := let_is (c4 := c4) (c6 := c6) (u := n + 1) (by omega)
          rw [← f4, ← f6] at hlet
          refine ⟨_, rfl, _, rfl, _, _, rfl, rfl, ⟨by decide, by decide, uB.up (by decide)⟩, _, _, rfl, rfl, div_any (Int.pow_ne_zero u0 : ((n + 1 : Nat) : Int) ^ 4 ≠ 0) b4B (by decide), _, rfl, _, rfl, _, _, rfl, rfl, ⟨by decide, by decide, uB.up (by decide)⟩, _, _, rfl, rfl, div_any (Int.pow_ne_zero u0 : ((n + 1 : Nat) : Int) ^ 6 ≠ 0) b6B (by decide), _, _, rfl, bx, bY, fun H3 F s3 hL => ?_⟩
          replace hL : CvL K H3 F (pairN (c4.fdiv (((n + 1 : Nat) : Int) ^ 4)) (c6.fdiv (((n + 1 : Nat) : Int) ^ 6)) 12) := hL
          generalize c4.fdiv (((n + 1 : Nat) : Int) ^ 4) = x at hL hlet
          generalize c6.fdiv (((n + 1 : Nat) : Int) ^ 6) = y at hL hlet
          refine ⟨(by show 0 ≤ sizeLine; decide), fun e0 ne0 => ?_⟩
          have s4 := Same.new (H := H3) (p := e0) (o := .lst []) ne0
          have g4 : upd H3 e0 (.lst []) e0 = some (.lst []) := upd_same
          generalize upd H3 e0 (.lst []) = H4 at s4 g4 ⊢
          obtain ⟨L, hF, hlen, hall⟩ := hL
          have b4 : But D H2 H4 := But.of (s3.trans s4)
          have gD4 : H4 D = some (.lst (dvs w n)) := (s3.trans s4) _ _ g2
          by_cases hP : IsP x y
          · obtain ⟨c, hr, ec4, ec6, hd⟩ := hP
            have e1 : pairN x y 12 = [c] := by
              rw [← ec4, ← ec6]
              exact pair_one hr hd
            have hdv : n + 1 ∣ w := ((hw _).mp (hlet.mpr ⟨d4, d6, by rw [e1]; intro z; cases z⟩)).2
            rw [e1] at hlen hall
            match L, hlen with
            | [p], _ =>
              obtain ⟨c', ec, hc⟩ := hall 0 p rfl
              obtain rfl := Option.some.inj ec
              refine ⟨.list [dcv c], .list [], .lst (lst_of (s4 _ _ hF)) (.cons (dp_cv (Same.tup s4 hc)) .nil), .lst (lst_of g4) .nil, rfl, rfl, _, rfl, ?_⟩
              refine iteY rfl ?_
              refine ⟨.ref D, rfl, .inl ⟨rfl, _, lst_of gD4⟩, _, rfl, D, _, _, rfl, rfl, gD4, small1000 (by have := dvs_len w n; omega), ?_⟩
              refine ⟨_, rfl, _, _, rfl, rfl, ?_⟩
              refine adv _ (b4.trans (But.upd (m := D))) ?_
              rw [upd_same, dvs_yes hdv]
          · have e1 : pairN x y 12 = [] := Decidable.byContradiction fun z => hP (pair_ne.mp z)
            rw [e1] at hlen
            have e := no fun h => hP (pair_ne.mp (hlet.mp h).2.2)
            match L, hlen with
            | [], _ =>
              refine ⟨.list [], .list [], .lst (lst_of (s4 _ _ hF)) .nil, .lst (lst_of g4) .nil, rfl, rfl, _, rfl, ?_⟩
              refine iteN (by decide) ?_
              refine ⟨_, rfl, _, _, rfl, rfl, ?_⟩
              exact adv H4 b4 (by rw [e]; exact gD4)
    · rintro σ H2 Q1 Q2 i ⟨v, hv, e0, b, eb, z⟩
      refine ⟨v, hv, e0, b, eb, ?_⟩
      split at z
      · rename_i h
        rw [if_pos h]
        obtain ⟨v1, h1, x1, y1, e1, e2, c1, v2, h2, j, ej, x2, y2, e3, e4, b2, eb2, z⟩ := z
        exact ⟨v1, h1, x1, y1, e1, e2, c1, v2, h2, j, ej, x2, y2, e3, e4, b2, eb2, i _ _ z⟩
      · rename_i h
        rw [if_neg h]
        obtain ⟨v1, h1, x1, y1, e1, e2, c1, v2, h2, j, ej, x2, y2, e3, e4, b2, eb2, z⟩ := z
        exact ⟨v1, h1, x1, y1, e1, e2, c1, v2, h2, j, ej, x2, y2, e3, e4, b2, eb2, i _ _ z⟩
end
end K13
set_option Elab.async false
set_option linter.all false
set_option maxRecDepth 100000
set_option maxHeartbeats 4000000
namespace K13
open PySem PySem.Spec PyProof.Rows L2 Gd QM
theorem iteNS {z z' : Str} {A B : Prop} (e : z = z') (b : B) : if (!decide (V.str z = V.str z')) = true then A else B := by
  rw [e]
  exact iteN (by simp) b
local macro_rules | `(tactic| walk_at "bd") => `(tactic| (repeat (first | assumption | apply B.add | apply B.sub | apply B.mul | apply B.neg | exact B.lit (n := 8) (by decide))))
local macro_rules | `(tactic| walk_at "bu") => `(tactic| (apply B.up; walk_at "bd"; decide))
/-! ### data -/
theorem dvs_dp {K : PySem.W.Frag} {H : Hp} (ns : List Int) : DpAll K H (ns.map V.int) (ns.map PyData.int) := by
  induction ns with
  | nil => exact .nil
  | cons n ns ih => exact .cons (.int n) ih
theorem dvs_ints (w n : Nat) : ∃ ns : List Int, dvs w n = ns.map V.int := ⟨((List.range n).filter fun i => decide (w % (i + 1) = 0)).map fun i => ((i + 1 : Nat) : Int), by unfold dvs; rw [List.map_map]; rfl⟩
theorem ints_sh (ns : List Int) : SeqAt.shaped (.list (ns.map PyData.int)) = true := by
  have h1 : PyData.canLayAll0 (ns.map PyData.int) = true ∧ PyData.depthAll (ns.map PyData.int) ≤ 5 := by
    induction ns with
    | nil => exact ⟨rfl, Nat.zero_le _⟩
    | cons n ns ih =>
      obtain ⟨i1, i2⟩ := ih
      constructor
      · rw [List.map_cons, PyData.canLayAll0, i1]
        rfl
      · rw [List.map_cons, PyData.depthAll]
        simp [PyData.depth]
        omega
  unfold SeqAt.shaped
  rw [Bool.and_eq_true]
  constructor
  · rw [PyData.canLay0]
    exact h1.1
  · rw [decide_eq_true_iff, PyData.depth]
    omega
theorem ints_eqv (ns : List Int) : PyData.eqv (.list (ns.map PyData.int)) (.list (ns.map PyData.int)) = true := by
  rw [PyData.eqv]
  induction ns with
  | nil => rfl
  | cons n ns ih =>
    rw [List.map_cons, PyData.eqvAll, ih]
    simp [PyData.eqv]
theorem rf_dp {K : PySem.W.Frag} {H : Hp} : ∀ {xs : List V} {qs : List Rat}, RfAt K H xs qs → DpAll K H xs (qs.map dq)
  | [], [], _ => .nil
  | [], _ :: _, h => by
    have := h.1
    cases this
  | _ :: _, [], h => by
    have := h.1
    cases this
  | x :: xs, q :: qs, h => by
    obtain ⟨a, q', rfl, e, hs⟩ := h.2 0 x rfl
    obtain rfl := Option.some.inj e
    refine .cons (dp_q hs) (rf_dp ⟨Nat.succ.inj h.1, fun i y hy => ?_⟩)
    exact h.2 (i + 1) y hy
theorem cv_okD {c : Cv} (h : CvB 120 c) : okD (dcv c) = true ∧ (dcv c).depth ≤ 40 ∧ wt (dcv c) ≤ 1000000 := by
  refine ⟨?_, ?_, ?_⟩
  · have e1 := h.h1.log (by decide)
    have e2 := h.h2.log (by decide)
    have e3 := h.h3.log (by decide)
    have e4 := h.h4.log (by decide)
    have e6 := h.h6.log (by decide)
    simp [okD, okAll, dcv, e1, e2, e3, e4, e6]
  · simp [PyData.depth, PyData.depthAll, dcv]
  · simp [wt, wtAll, dcv]
def dqs (c : Cv) : PyData := .tuple [dq (c.a1 : Rat), dq (c.a2 : Rat), dq (c.a3 : Rat), dq (c.a4 : Rat), dq (c.a6 : Rat)]
theorem qs_okD {c : Cv} (h : CvB 120 c) : okD (dqs c) = true ∧ (dqs c).depth ≤ 40 ∧ wt (dqs c) ≤ 1000000 := by
  refine ⟨?_, ?_, ?_⟩
  · have e1 := okq (RB.int h.h1 (by decide)) (by decide)
    have e2 := okq (RB.int h.h2 (by decide)) (by decide)
    have e3 := okq (RB.int h.h3 (by decide)) (by decide)
    have e4 := okq (RB.int h.h4 (by decide)) (by decide)
    have e6 := okq (RB.int h.h6 (by decide)) (by decide)
    simp [okD, okAll, dqs, e1, e2, e3, e4, e6]
  · simp [PyData.depth, PyData.depthAll, dqs, dq]
  · simp [wt, wtAll, dqs, dq]
theorem md_B {c : Cv} (h : c.Md) : CvB 120 c := ⟨h.h1.up (by decide), h.h2.up (by decide), h.h3.up (by decide), h.h4.up (by decide), h.h6.up (by decide)⟩
/-! ### the change's sizes -/
theorem cS_T {c e : Cv} {u : Rat} (hc : c.Md) (he : e.Md) (hu : RB 8 u) : RB 35 (cS c e u) := RB.up (RB.div two_ne (RB.sub (RB.mul hu (rb12 he.h1)) (rb12 hc.h1)) rb_two) (by decide)
theorem cR_T {c e : Cv} {u : Rat} (hc : c.Md) (he : e.Md) (hu : RB 8 u) : RB 162 (cR c e u) := RB.up (RB.div three_ne (RB.add (RB.add (RB.sub (RB.mul (RB.mul hu hu) (rb12 he.h2)) (rb12 hc.h2)) (RB.mul (cS_T hc he hu) (rb12 hc.h1))) (RB.mul (cS_T hc he hu) (cS_T hc he hu))) rb_three) (by decide)
theorem cT_T {c e : Cv} {u : Rat} (hc : c.Md) (he : e.Md) (hu : RB 8 u) : RB 226 (cT c e u) := RB.up (RB.div two_ne (RB.sub (RB.sub (RB.mul (RB.mul (RB.mul hu hu) hu) (rb12 he.h3)) (rb12 hc.h3)) (RB.mul (cR_T hc he hu) (rb12 hc.h1))) rb_two) (by decide)
theorem chg_of {K : PySem.W.Frag} {H : Hp} {o : Addr} {c d : Cv} {w : Nat} (h : ChAt K H o ⟨((w : Int) : Rat), cR c d ((w : Int) : Rat), cS c d ((w : Int) : Rat), cT c d ((w : Int) : Rat)⟩) (hc : c.Md) (hd : d.Md) (hw : w ≤ 177) : ChG K H o ⟨((w : Int) : Rat), cR c d ((w : Int) : Rat), cS c d ((w : Int) : Rat), cT c d ((w : Int) : Rat)⟩ := by
  obtain ⟨a, b, e, f, h1, h2, h3, h4, h5⟩ := h
  have wB : RB 8 (((w : Int)) : Rat) := RB.int (m := 8) (by omega) (by decide)
  exact ⟨a, b, e, f, h1, .of h2 (wB.up (by decide)), .of h3 ((cR_T hc hd wB).up (by decide)), .of h4 ((cS_T hc hd wB).up (by decide)), .of h5 ((cT_T hc hd wB).up (by decide))⟩
theorem Lst.okd {c4 c6 : Int} {v : Nat} {d : Cv} (h : Lst c4 c6 v d) (k4 : c4.natAbs ≤ 1000000000) (k6 : c6.natAbs ≤ 10000000000000) : d.Ok := by
  obtain ⟨l4, l6⟩ := h.le
  exact ⟨h.md k4 k6, h.nums.2.2, by omega, by omega⟩
theorem isp_of_d {c : Cv} (h : c.disc ≠ 0) : IsP c.c4 c.c6 := ⟨red c, red_rc c, red_c4 c, red_c6 c, red_d h⟩
theorem nz_of_d {c : Cv} (hd : c.disc ≠ 0) : ¬ (c.c4 = 0 ∧ c.c6 = 0) := by
  rintro ⟨z1, z2⟩
  have := disc_eq c
  rw [z1, z2] at this
  omega
theorem disc_B {c : Cv} (h : c.Md) : B 900 c.disc := by
  have e2 := h.b2
  have e4 := h.b4
  have e6 := h.b6
  have e8 := h.b8
  unfold Cv.disc
  walk_at "bu"
theorem sh_true : (PyData.bool true).shown = ("True" : Str) := by decide +kernel
section
variable {P : Program} {w : World} {K : PySem.W.Frag} {mg : Str → Option Value} {base : Heap}
def sp_law_least_right (K : PySem.W.Frag) : Sp := fun vs H Q _ => ∃ (p : Addr) (c : Cv), vs = [.ref p] ∧ SqT K H p c.tup ∧ c.Lk ∧ ∀ H' t d v, Same H H' → Lst c.c4 c.c6 v d → SqT K H' t d.tup → Q (.ref t) H'
abbrev s__law_least_right : Stmt := topS 70
theorem sc__law_least_right : FnScope ["five_v", "numbers", "lets", "w", "u", "due", "told", "change", "part"] ["five_v"] (defScope s__law_least_right) := ⟨rfl, rfl, rfl, by decide +kernel, rfl, by decide +kernel, by decide +kernel⟩
theorem k_law_least_right (T : Tx K mg) (D : Df K mg "_law_least_right" s__law_least_right ["five_v"]) (c_law_numbers : Kl P w K mg base 1 "_law_numbers" (sp_law_numbers K)) (c_law_lets : Kl P w K mg base 3 "_law_lets" (sp_law_lets K)) (c_least_model : Kl P w K mg base 10 "least_model" (sp_least_model K)) (c_law_pair : Kl P w K mg base 2 "_law_pair" (sp_law_pair K)) (c_scale_of : Kl P w K mg base 10 "scale_of" (sp_scale_of K)) (c_is_least : Kl P w K mg base 10 "is_least" (sp_is_least K)) (c_law_led : Kl P w K mg base 4 "_law_led" (sp_law_led K)) : Kg P w K mg base 11 "_law_least_right" (sp_law_least_right K) := by
  have nd := sc__law_least_right.nd
  refine Kg.by_body D sc__law_least_right (fun vs H Q E h => ?_) (fun f cdv A outer s H vs Q E hgd hr h => ?_)
  · obtain ⟨_, _, rfl, _⟩ := h
    rfl
  · obtain ⟨p, c, rfl, hp, hL, q⟩ := h
    have hu1 := hu_of hr
    refine ⟨_, (pss_cons (ps_set (i := 1) nd rfl (by first | exact Or.inl rfl | exact Or.inr rfl) (pe_k c_law_numbers  hr (by decide) (by rfl) (pa_cons (pv 0) pa_nil)))
      (pss_cons (ps_set (i := 2) nd rfl (by first | exact Or.inl rfl | exact Or.inr rfl) (pe_k c_law_lets  hr (by decide) (by rfl) (pa_cons (pe_ix ix_tup (pv 1) pe_int (fun _ _ => rfl)) (pa_cons (pe_ix ix_tup (pv 1) pe_int (fun _ _ => rfl)) pa_nil))))
      (pss_cons (ps_set (i := 3) nd rfl (by first | exact Or.inl rfl | exact Or.inr rfl) (pe_ix ix_list (pv 2) (pe_un un_neg pe_int) (fun _ _ => rfl)))
      (pss_cons (ps_if (PW.pt (pw_or (pt_cmpR (op_neD hr.units) (pv 2) (pe_lc (own := [("u", 4)]) (g := gName 4) rfl nd (pi_range2 (by rfl) T.range (pa_cons pe_int (pa_cons (pe_op op_add (pv 3) pe_int) pa_nil))) (blkOk_by (N := ["five_v", "numbers", "lets", "w", "u", "due", "told", "change", "part"]) (sc := defScope s__law_least_right) (by decide +kernel)) (fun _ _ _ _ _ => (pg_name (i := 4) nd rfl (by first | exact Or.inl rfl | exact Or.inr rfl))) (fun _ _ _ _ _ => (pts_one (pt_cmpR op_eq (pe_op op_mod (pe_callTy call_intI (by rfl) T.int (by decide +kernel) (pa_cons (pv 3) pa_nil)) (pv 4)) pe_int (nomark _)))) (fun _ _ _ _ _ => (pv 4))) (nomark _)) (pw_or1 (pt_cmpR op_ne (pe_callB (call_reprD hgd hr.units) (by rfl) T.repr (by decide +kernel) (pa_cons (pe_k c_scale_of  hr (by decide) (by rfl) (pa_cons (pv 0) pa_nil)) pa_nil)) (pe_callB (call_reprD hgd hr.units) (by rfl) T.repr (by decide +kernel) (pa_cons (pv 3) pa_nil)) (nomark _))))) (pss_one (ps_ret pe_non)) pss_nil)
      (pss_cons (ps_set (i := 5) nd rfl (by first | exact Or.inl rfl | exact Or.inr rfl) (pe_ix ix_list (pe_k c_law_pair  hr (by decide) (by rfl) (pa_cons (pe_op op_fdivAny (pe_ix ix_tup (pv 1) pe_int (fun _ _ => rfl)) (pe_op op_pow (pv 3) pe_int)) (pa_cons (pe_op op_fdivAny (pe_ix ix_tup (pv 1) pe_int (fun _ _ => rfl)) (pe_op op_pow (pv 3) pe_int)) pa_nil))) pe_int (fun _ _ => rfl)))
      (pss_cons (ps_asg (pe_k c_least_model  hr (by decide) (by rfl) (pa_cons (pv 0) pa_nil)) (pg_tup rfl (pgs_cons (pg_name (i := 6) nd rfl (by first | exact Or.inl rfl | exact Or.inr rfl)) (pgs_cons (pg_name (i := 7) nd rfl (by first | exact Or.inl rfl | exact Or.inr rfl)) pgs_nil))))
      (pss_cons (ps_if (PW.pt (pw_or (pt_cmpR op_ne (pe_callB (call_reprD hgd hr.units) (by rfl) T.repr (by decide +kernel) (pa_cons (pv 6) pa_nil)) (pe_callB (call_reprD hgd hr.units) (by rfl) T.repr (by decide +kernel) (pa_cons (pv 5) pa_nil)) (nomark _)) (pw_or (pt_cmpR op_lt (pe_ix ix_tup (pe_ix ix_tup (pv 7) pe_int (fun _ _ => rfl)) pe_int (fun _ _ => rfl)) pe_int (nomark _)) (pw_or1 (pt_cmpR op_ne (pe_callB (call_reprD hgd hr.units) (by rfl) T.repr (by decide +kernel) (pa_cons (pe_k c_is_least  hr (by decide) (by rfl) (pa_cons (pv 0) pa_nil)) pa_nil)) (pe_callB (call_reprD hgd hr.units) (by rfl) T.repr (by decide +kernel) (pa_cons (pe_cmpR (op_eqD hr.units) (pv 5) (pv 0) (nomark _)) pa_nil)) (nomark _)))))) (pss_one (ps_ret pe_non)) pss_nil)
      (pss_cons (ps_if (PW.pt (pw_or (pt_cmpR op_ne (pe_callB (call_reprD hgd hr.units) (by rfl) T.repr (by decide +kernel) (pa_cons (pe_k c_law_led  hr (by decide) (by rfl) (pa_cons (pv 0) (pa_cons (pv 7) pa_nil))) pa_nil)) (pe_callB (call_reprD hgd hr.units) (by rfl) T.repr (by decide +kernel) (pa_cons (pe_callTy call_tuple_of (by rfl) T.tuple (by decide +kernel) (pa_cons (pe_lc (own := [("part", 8)]) (g := gName 8) rfl nd (pi_tup (pv 5)) (blkOk_by (N := ["five_v", "numbers", "lets", "w", "u", "due", "told", "change", "part"]) (sc := defScope s__law_least_right) (by decide +kernel)) (fun _ _ _ _ _ => (pg_name (i := 8) nd rfl (by first | exact Or.inl rfl | exact Or.inr rfl))) (fun _ _ _ _ _ => pts_nil) (fun _ _ _ _ _ => (pe_tup (pa_cons (pv 8) (pa_cons pe_int pa_nil))))) pa_nil)) pa_nil)) (nomark _)) (pw_or1 (pt_cmpR op_ne (pe_callB (call_reprD hgd hr.units) (by rfl) T.repr (by decide +kernel) (pa_cons (pe_k c_is_least  hr (by decide) (by rfl) (pa_cons (pv 5) pa_nil)) pa_nil)) pe_str (nomark _))))) (pss_one (ps_ret pe_non)) pss_nil)
      (pss_one (ps_ret (pe_ifExp (pt_cmpR op_eq (pe_op op_mulW (pe_ix ix_tup (pe_k c_law_numbers  hr (by decide) (by rfl) (pa_cons (pv 5) pa_nil)) pe_int (fun _ _ => rfl)) (pe_op op_pow (pv 3) pe_int)) (pe_ix ix_tup (pv 1) pe_int (fun _ _ => rfl)) (nomark _)) (pv 5) pe_non))))))))))), ?_⟩
    obtain ⟨hok, hb⟩ := hL
    obtain ⟨hmd, hd0, h4, h6⟩ := hok
    have hz := nz_of_d hd0
    have hisp := isp_of_d hd0
    refine ⟨_, rfl, p, c, rfl, hp, hmd, fun t1 n1 => ?_⟩
    have s1 := Same.new (H := H) (p := t1) (o := .tup c.nums) n1
    have g1 : upd H t1 (.tup c.nums) t1 = some (.tup c.nums) := upd_same
    generalize upd H t1 (.tup c.nums) = H1 at s1 g1 ⊢
    refine ⟨_, rfl, t1, _, 4, .int c.c4, rfl, rfl, tup_of g1, rfl, _, rfl, t1, _, 5, .int c.c6, rfl, rfl, tup_of g1, rfl, c.c4, c.c6, rfl, hz, h4, h6, hisp, fun H2 D v s2 hv v0 v177 gD => ?_⟩
    first | refine sigN [some (.ref p), some (.ref t1), some (.ref D), none, none, none, none, none, none] (by rfl) ?_ | refine sig [some (.ref p), some (.ref t1), some (.ref D), none, none, none, none, none, none] (by rfl) ?_
    obtain ⟨d, hl⟩ : ∃ d, Lst c.c4 c.c6 v d := by
      obtain ⟨_, x, y, e4, e6, hxy⟩ := (hv v).mpr ⟨v0, Nat.dvd_refl v⟩
      obtain ⟨d, hd⟩ := isp_curve.mp hxy
      exact ⟨d, v0, hv, x, y, e4, e6, hd⟩
    have hdok := hl.okd h4 h6
    have hlast : atI (dvs v v) (-1) = some (.int (v : Int)) := by
      obtain ⟨k, rfl⟩ : ∃ k, v = k + 1 := ⟨v - 1, by omega⟩
      rw [dvs_yes (Nat.dvd_refl _)]
      exact atI_last _ _
    refine ⟨_, rfl, _, rfl, D, _, -1, .int (v : Int), rfl, rfl, lst_of gD, hlast, ?_⟩
    first | refine sigN [some (.ref p), some (.ref t1), some (.ref D), some (.int ((v : Int))), none, none, none, none, none] (by rfl) ?_ | refine sig [some (.ref p), some (.ref t1), some (.ref D), some (.int ((v : Int))), none, none, none, none, none] (by rfl) ?_
    have vB : B 8 (v : Int) := by
      unfold B
      omega
    refine ⟨_, rfl, _, rfl, _, _, rfl, rfl, _, _, rfl, ⟨by decide, by decide, by omega, by omega⟩, fun D2 hD2 => ?_⟩
    refine lc_range (lo := 1) (n := ((v : Int) + 1 - 1).toNat) (fun i H4 => Same H2 H4 ∧ H4 D2 = some (.lst (dvs v i))) ⟨Same.new hD2, upd_same⟩ (fun i H4 hi z => ?_) (fun H4 z => ?_)
    · obtain ⟨s4, g4⟩ := z
      have hiv : i < v := by omega
      refine ⟨rfl, _, rfl, _, rfl, _, rfl, _, _, rfl, rfl, (by show (0 : Int) < 1 + (i : Int); omega), rfl, _, rfl, ?_⟩
      rw [dec_int]
      have ei : (1 : Int) + (i : Int) = ((i + 1 : Nat) : Int) := by omega
      by_cases hdv : i + 1 ∣ v
      · refine iteY (by rw [ei, ← Int.natCast_emod, Nat.mod_eq_zero_of_dvd hdv]; rfl) ?_
        refine ⟨_, rfl, _, g4, small1000 (by have := dvs_len v i; omega), Same.put s4 hD2, ?_⟩
        rw [upd_same, dvs_yes hdv, ei]
      · refine iteN (fun y => hdv (Nat.dvd_of_mod_eq_zero (by rw [ei, ← Int.natCast_emod] at y; have := beq_iff_eq.mp y; omega))) ?_
        exact ⟨s4, by rw [dvs_no hdv]; exact g4⟩
    obtain ⟨s4, g4⟩ := z
    rw [show ((v : Int) + 1 - 1).toNat = v by omega] at g4
    obtain ⟨ns, ens⟩ := dvs_ints v v
    have gD4 := s4 _ _ gD
    rw [ens] at g4 gD4
    refine ⟨.list (ns.map PyData.int), .list (ns.map PyData.int), .lst (lst_of gD4) (dvs_dp ns), .lst (lst_of g4) (dvs_dp ns), ints_sh ns, ints_sh ns, _, rfl, ?_⟩
    rw [ints_eqv]
    refine iteN (by decide) ?_
    have s14 := s2.trans s4
    have hp4 := Same.tup (s1.trans s14) hp
    have g14 := s14 _ _ g1
    refine ⟨_, rfl, p, c, rfl, hp4, ⟨hmd, hd0, h4, h6⟩, fun H5 v' d' s5 hl' => ?_⟩
    obtain ⟨rfl, rfl⟩ := hl.uniq hl'
    have lv : okD (.int (v : Int)) = true := by
      show decide ((v : Int).natAbs.log2 < 1920) = true
      exact decide_eq_true (vB.log (by decide))
    refine ⟨.int (v : Int), .int (v : Int), rfl, .int _, lv, (by simp [PyData.depth]), (by simp [wt]), ?_⟩
    refine ⟨_, rfl, .int (v : Int), .int (v : Int), rfl, .int _, lv, (by simp [PyData.depth]), (by simp [wt]), rfl, _, rfl, ?_⟩
    generalize (PyData.int (v : Int)).shown = zz
    refine iteNS rfl ?_
    have s15 := s14.trans s5
    have hp5 := Same.tup s5 hp4
    have g15 := s5 _ _ g14
    clear gD gD4 g4 g14 hp4 s14 s4 s2 hl' hisp
    obtain ⟨e4, e6, hdd⟩ := hl.nums
    have v4 : (v : Int) ^ 4 ≠ 0 := Int.pow_ne_zero (by omega)
    have v6 : (v : Int) ^ 6 ≠ 0 := Int.pow_ne_zero (by omega)
    have f4 : c.c4.fdiv ((v : Int) ^ 4) = d.c4 := by rw [e4]; exact Int.mul_fdiv_cancel_left _ v4
    have f6 : c.c6.fdiv ((v : Int) ^ 6) = d.c6 := by rw [e6]; exact Int.mul_fdiv_cancel_left _ v6
    have v4B : B 33 ((v : Int) ^ 4) := (vB.pow 4).up (by decide)
    have v6B : B 49 ((v : Int) ^ 6) := (vB.pow 6).up (by decide)
    have bx : B 59 (c.c4.fdiv ((v : Int) ^ 4)) := by
      rw [f4]
      have := hdok.h4
      unfold B
      omega
    have bY : B 104 (c.c6.fdiv ((v : Int) ^ 6)) := by
      rw [f6]
      have := hdok.h6
      unfold B
      omega
    refine ⟨_, rfl, t1, _, 4, .int c.c4, rfl, rfl, tup_of g15, rfl, _, rfl, _, _, rfl, rfl, ⟨by decide, by decide, vB.up (by decide)⟩, _, _, rfl, rfl, div_any (v4 : (v : Int) ^ 4 ≠ 0) v4B (by decide), _, rfl, t1, _, 5, .int c.c6, rfl, rfl, tup_of g15, rfl, _, rfl, _, _, rfl, rfl, ⟨by decide, by decide, vB.up (by decide)⟩, _, _, rfl, rfl, div_any (v6 : (v : Int) ^ 6 ≠ 0) v6B (by decide), _, _, rfl, bx, bY, fun H6 F s6 hF => ?_⟩
    replace hF : CvL K H6 F (pairN (c.c4.fdiv ((v : Int) ^ 4)) (c.c6.fdiv ((v : Int) ^ 6)) 12) := hF
    rw [f4, f6, pair_one hl.rc hdd] at hF
    obtain ⟨L, gF, hlen, hall⟩ := hF
    match L, hlen, gF, hall with
    | [pd], _, gF, hall =>
      obtain ⟨c', ec, hpd⟩ := hall 0 pd rfl
      obtain rfl := Option.some.inj ec
      clear hall ec
      refine ⟨F, _, 0, .ref pd, rfl, rfl, lst_of gF, rfl, ?_⟩
      first | refine sigN [some (.ref p), some (.ref t1), some (.ref D), some (.int ((v : Int))), none, some (.ref pd), none, none, none] (by rfl) ?_ | refine sig [some (.ref p), some (.ref t1), some (.ref D), some (.int ((v : Int))), none, some (.ref pd), none, none, none] (by rfl) ?_
      have s16 := s15.trans s6
      have hp6 := Same.tup s6 hp5
      have g16 := s6 _ _ g15
      refine ⟨_, rfl, p, c, rfl, hp6, ⟨hmd, hd0, h4, h6⟩, fun H7 t l o v' d' s7 hl' gt hlc hch => ?_⟩
      obtain ⟨rfl, rfl⟩ := hl.uniq hl'
      refine ⟨t, _, rfl, tup_of gt, rfl, _, _, rfl, _, _, rfl, rfl, ?_⟩
      first | refine sigN [some (.ref p), some (.ref t1), some (.ref D), some (.int ((v : Int))), none, some (.ref pd), some (.ref l), some (.ref o), none] (by rfl) ?_ | refine sig [some (.ref p), some (.ref t1), some (.ref D), some (.int ((v : Int))), none, some (.ref pd), some (.ref l), some (.ref o), none] (by rfl) ?_
      have hpd7 := Same.tup s7 hpd
      have hp7 := Same.tup s7 hp6
      have g17 := s7 _ _ g16
      obtain ⟨k1, k2, k3⟩ := cv_okD (md_B hdok.md)
      refine ⟨_, rfl, .ref l, dcv d, rfl, dp_cv hlc, k1, k2, k3, ?_⟩
      refine ⟨_, rfl, .ref pd, dcv d, rfl, dp_cv hpd7, k1, k2, k3, rfl, _, rfl, ?_⟩
      generalize (dcv d).shown = zz
      refine iteNS rfl ?_
      have hch' := hch
      obtain ⟨pu, pr, ps, pt, go, hu, hr', hs, ht⟩ := hch'
      replace hu : SqT K H7 pu (fq (((v : Int)) : Rat)) := hu
      rw [← fq_w] at hu
      refine ⟨_, rfl, o, _, 0, .ref pu, rfl, rfl, go, rfl, pu, _, 0, .int (v : Int), rfl, rfl, hu, rfl, _, _, rfl, rfl, _, rfl, iteN (by simp; omega) ?_⟩
      refine ⟨_, rfl, p, c, rfl, hp7, ⟨hmd, hd0, h4, h6⟩, fun H8 v' d' s8 hl' => ?_⟩
      obtain ⟨rfl, rfl⟩ := hl.uniq hl'
      refine ⟨.bl _, .bool (decide (d = c)), rfl, .bl _, rfl, (by simp [PyData.depth]), (by simp [wt]), ?_⟩
      have hpd8 := Same.tup s8 hpd7
      have hp8 := Same.tup s8 hp7
      have g18 := s8 _ _ g17
      refine ⟨_, rfl, _, rfl, dcv d, dcv c, dp_cv hpd8, dp_cv hp8, rfl, rfl, ?_⟩
      rw [eqv_cv]
      refine ⟨.bl _, .bool (decide (d = c)), rfl, .bl _, rfl, (by simp [PyData.depth]), (by simp [wt]), rfl, _, rfl, ?_⟩
      generalize (PyData.bool (decide (d = c))).shown = zz
      refine iteNS rfl ?_
      clear hu hr' hs ht go hlc gt hp7 hp6 hp5 hpd hpd7 g17 g16 g15 gF
      have hv0 : (((v : Int)) : Rat) ≠ 0 := fun z => by
        have : (v : Int) = 0 := by exact_mod_cast z
        omega
      have hch8 := chg_of (hch.same s8) hmd hdok.md v177
      have q4 : (c.c4 : Rat) = (((v : Int)) : Rat) ^ 4 * (d.c4 : Rat) := by
        rw [e4]
        push_cast
        rfl
      have q6 : (c.c6 : Rat) = (((v : Int)) : Rat) ^ 6 * (d.c6 : Rat) := by
        rw [e6]
        push_cast
        rfl
      have hled := led_due (c := c) (e := d) hv0 q4 q6
      refine ⟨_, rfl, _, rfl, p, o, c, _, rfl, hp8, hb, hch8, hv0, fun H9 t xs s9 gt hrf => ?_⟩
      rw [hled] at hrf
      obtain ⟨j1, j2, j3⟩ := qs_okD (md_B hdok.md)
      refine ⟨.ref t, dqs d, rfl, .tup (tup_of gt) (rf_dp hrf), j1, j2, j3, ?_⟩
      have hpd9 := Same.tup s9 hpd8
      refine ⟨_, rfl, pd, rfl, ⟨_, hpd9⟩, fun D3 hD3 => ?_⟩
      refine lc_tup (K := K) (a := pd) (xs := d.tup) (fun i H4 => Same H9 H4 ∧ FrD H4 D3 d.ints i) ⟨Same.new hD3, FrD.new⟩ (fun i H4 _ z => Same.tup z.1 hpd9) (fun i x H4 hi z => ?_) (fun Ha z => ?_)
      · obtain ⟨n, rfl, hn⟩ : ∃ n, x = .int n ∧ d.ints[i]? = some n := by
          rw [Cv.tup_ints, List.getElem?_map] at hi
          cases e : d.ints[i]? with
          | none =>
            rw [e] at hi
            cases hi
          | some y =>
            rw [e] at hi
            exact ⟨y, (Option.some.inj hi).symm, rfl⟩
        have hi5 : i < 5 := (List.getElem?_eq_some_iff.mp hn).1
        refine ⟨rfl, _, rfl, (by show 2 ≤ sizeLine; decide), fun t nt => ?_⟩
        rw [← fq_int n]
        obtain ⟨acc, h1, h2, h3⟩ := FrD.push z.2 hn nt (by omega)
        exact ⟨acc, h1, h2, Same.put (Same.put z.1 (z.1.free nt)) hD3, h3⟩
      obtain ⟨sa, hFa⟩ := z
      obtain ⟨pa1, pa2, pa3, pa4, pa6, gD3, hpa1, hpa2, hpa3, hpa4, hpa6⟩ := hFa.five
      refine ⟨D3, _, rfl, .inl ⟨lst_of gD3, fun tq ntq => ?_⟩⟩
      have sb := Same.new (H := Ha) (p := tq) (o := .tup [.ref pa1, .ref pa2, .ref pa3, .ref pa4, .ref pa6]) ntq
      have gq : upd Ha tq (.tup [.ref pa1, .ref pa2, .ref pa3, .ref pa4, .ref pa6]) tq = some (.tup [.ref pa1, .ref pa2, .ref pa3, .ref pa4, .ref pa6]) := upd_same
      generalize upd Ha tq (.tup [.ref pa1, .ref pa2, .ref pa3, .ref pa4, .ref pa6]) = Hb at sb gq ⊢
      refine ⟨.ref tq, dqs d, rfl, .tup (tup_of gq) (.cons (dp_q (tup_of (sb _ _ hpa1))) (.cons (dp_q (tup_of (sb _ _ hpa2))) (.cons (dp_q (tup_of (sb _ _ hpa3))) (.cons (dp_q (tup_of (sb _ _ hpa4))) (.cons (dp_q (tup_of (sb _ _ hpa6))) .nil))))), j1, j2, j3, rfl, _, rfl, ?_⟩
      generalize (dqs d).shown = zz
      refine iteNS rfl ?_
      have s8b := s9.trans (sa.trans sb)
      have hpdb := Same.tup s8b hpd8
      refine ⟨_, rfl, pd, d, rfl, hpdb, hdok, fun Hc v' d' sc hl' => ?_⟩
      obtain ⟨rfl, rfl⟩ := hl.self.uniq hl'
      rw [decide_eq_true rfl]
      refine ⟨.bl true, .bool true, rfl, .bl _, rfl, (by simp [PyData.depth]), (by simp [wt]), rfl, _, rfl, ?_⟩
      refine iteNS sh_true ?_
      have hpdc := Same.tup sc hpdb
      have g1c := (s8b.trans sc) _ _ g18
      refine ⟨_, rfl, pd, d, rfl, hpdc, hdok.md, fun tn ntn => ?_⟩
      have sd := Same.new (H := Hc) (p := tn) (o := .tup d.nums) ntn
      have gn : upd Hc tn (.tup d.nums) tn = some (.tup d.nums) := upd_same
      generalize upd Hc tn (.tup d.nums) = Hd at sd gn ⊢
      have hdisc := hl.disc
      have dB : B 900 d.disc := disc_B hdok.md
      refine ⟨tn, _, 6, .int d.disc, rfl, rfl, tup_of gn, rfl, _, rfl, _, _, rfl, rfl, ⟨by decide, by decide, vB.up (by decide)⟩, _, _, rfl, rfl, dB.mulW (vB.pow 12) (by decide), _, rfl, t1, _, 6, .int c.disc, rfl, rfl, tup_of (sd _ _ g1c), rfl, rfl, _, rfl, ?_⟩
      rw [dec_int]
      refine iteY (beq_iff_eq.mpr hdisc) ?_
      refine ⟨_, rfl, ?_⟩
      exact q Hd pd d v (s1.trans (s16.trans (s7.trans (s8.trans (s8b.trans (sc.trans sd)))))) hl (Same.tup sd hpdc)
end
end K13
set_option Elab.async false
set_option linter.all false
set_option maxRecDepth 100000
set_option maxHeartbeats 4000000
namespace K13
open PySem PySem.Spec PyProof.Rows L2 Gd QM
/-! ### sizes of drawn curves -/
theorem mul_na {x y : Int} {a b : Nat} (hx : x.natAbs ≤ a) (hy : y.natAbs ≤ b) : (x * y).natAbs ≤ a * b := by
  rw [Int.natAbs_mul]
  exact Nat.mul_le_mul hx hy
theorem add_na {x y : Int} {a b : Nat} (hx : x.natAbs ≤ a) (hy : y.natAbs ≤ b) : (x + y).natAbs ≤ a + b := by omega
theorem sub_na {x y : Int} {a b : Nat} (hx : x.natAbs ≤ a) (hy : y.natAbs ≤ b) : (x - y).natAbs ≤ a + b := by omega
theorem Cv.Tn.b2 {c : Cv} (h : c.Tn) : c.b2.natAbs ≤ 12 := by
  have h1 := mul_na h.h1 h.h1
  have h2 := h.h2
  unfold Cv.b2
  omega
theorem Cv.Tn.b4 {c : Cv} (h : c.Tn) : c.b4.natAbs ≤ 64 := by
  have h1 := mul_na h.h1 h.h3
  have h2 := h.h4
  unfold Cv.b4
  omega
theorem Cv.Tn.b6 {c : Cv} (h : c.Tn) : c.b6.natAbs ≤ 364 := by
  have h1 := mul_na h.h3 h.h3
  have h2 := h.h6
  unfold Cv.b6
  omega
theorem Cv.Tn.c4 {c : Cv} (h : c.Tn) : c.c4.natAbs ≤ 1680 := by
  have h1 := mul_na h.b2 h.b2
  have h2 := h.b4
  unfold Cv.c4
  omega
theorem Cv.Tn.c6 {c : Cv} (h : c.Tn) : c.c6.natAbs ≤ 108000 := by
  have h1 := mul_na (mul_na h.b2 h.b2) h.b2
  have h2 := mul_na h.b2 h.b4
  have h3 := h.b6
  have e : 36 * c.b2 * c.b4 = 36 * (c.b2 * c.b4) := by grind
  unfold Cv.c6
  rw [e]
  omega
theorem Cv.Tn.lk {c : Cv} (h : c.Tn) (hd : c.disc ≠ 0) : c.Lk := by
  have k1 := h.c4
  have k2 := h.c6
  obtain ⟨h1, h2, h3, h4, h6⟩ := h
  exact ⟨⟨⟨by unfold B; omega, by unfold B; omega, by unfold B; omega, by unfold B; omega, by unfold B; omega⟩, hd, by omega, by omega⟩, ⟨by unfold B; omega, by unfold B; omega, by unfold B; omega, by unfold B; omega, by unfold B; omega⟩⟩
theorem mvd_lk {c : Cv} {S r s t : Int} (h : c.Tn) (hd : c.disc ≠ 0) (S0 : 1 ≤ S) (S1 : S ≤ 6) (r0 : -3 ≤ r) (r1 : r ≤ 3) (s0 : -2 ≤ s) (s1 : s ≤ 2) (t0 : -3 ≤ t) (t1 : t ≤ 3) : (mvd S r s t c).Lk := by
  have k4 := h.c4
  have k6 := h.c6
  obtain ⟨h1, h2, h3, h4, h6⟩ := h
  have nS : S.natAbs ≤ 6 := by omega
  have nr : r.natAbs ≤ 3 := by omega
  have ns : s.natAbs ≤ 2 := by omega
  have nt : t.natAbs ≤ 3 := by omega
  have p2 : (S ^ 2).natAbs ≤ 36 := by rw [show S ^ 2 = S * S by grind]; exact mul_na nS nS
  have p3 : (S ^ 3).natAbs ≤ 216 := by rw [show S ^ 3 = S ^ 2 * S by grind]; exact mul_na p2 nS
  have p4 : (S ^ 4).natAbs ≤ 1296 := by rw [show S ^ 4 = S ^ 2 * S ^ 2 by grind]; exact mul_na p2 p2
  have p6 : (S ^ 6).natAbs ≤ 46656 := by rw [show S ^ 6 = S ^ 3 * S ^ 3 by grind]; exact mul_na p3 p3
  have q1 := mul_na nS h1
  have q2 := mul_na p2 h2
  have q3 := mul_na p3 h3
  have q4 := mul_na p4 h4
  have q6 := mul_na p6 h6
  have b1 : (mvd S r s t c).a1.natAbs ≤ 4000 := Nat.le_trans (add_na q1 (mul_na (show (2 : Int).natAbs ≤ 2 by decide) ns)) (by decide)
  have b2 : (mvd S r s t c).a2.natAbs ≤ 4000 := Nat.le_trans (sub_na (add_na (sub_na q2 (mul_na ns q1)) (mul_na (show (3 : Int).natAbs ≤ 3 by decide) nr)) (mul_na ns ns)) (by decide)
  have b3 : (mvd S r s t c).a3.natAbs ≤ 4000 := Nat.le_trans (add_na (add_na q3 (mul_na nr q1)) (mul_na (show (2 : Int).natAbs ≤ 2 by decide) nt)) (by decide)
  have b4 : (mvd S r s t c).a4.natAbs ≤ 1000000 := Nat.le_trans (sub_na (add_na (sub_na (add_na (sub_na q4 (mul_na ns q3)) (mul_na (mul_na (show (2 : Int).natAbs ≤ 2 by decide) nr) q2)) (mul_na (add_na nt (mul_na nr ns)) q1)) (mul_na (mul_na (show (3 : Int).natAbs ≤ 3 by decide) nr) nr)) (mul_na (mul_na (show (2 : Int).natAbs ≤ 2 by decide) ns) nt)) (by decide)
  have b6 : (mvd S r s t c).a6.natAbs ≤ 100000000 := Nat.le_trans (sub_na (sub_na (sub_na (add_na (add_na (add_na q6 (mul_na nr q4)) (mul_na (mul_na nr nr) q2)) (mul_na (mul_na nr nr) nr)) (mul_na nt q3)) (mul_na nt nt)) (mul_na (mul_na nr nt) q1)) (by decide)
  have c4 : (mvd S r s t c).c4.natAbs ≤ 1000000000 := by
    rw [mvd_c4]
    exact Nat.le_trans (mul_na p4 k4) (by decide)
  have c6 : (mvd S r s t c).c6.natAbs ≤ 10000000000000 := by
    rw [mvd_c6]
    exact Nat.le_trans (mul_na p6 k6) (by decide)
  have lt : ∀ {x : Int} {a n : Nat}, x.natAbs ≤ a → a < 2 ^ n → B n x := fun h k => Nat.lt_of_le_of_lt h k
  exact ⟨⟨⟨lt b1 (by decide), lt b2 (by decide), lt b3 (by decide), lt b4 (by decide), lt b6 (by decide)⟩, mvd_d (by omega) hd, c4, c6⟩, ⟨lt b1 (by decide), lt b2 (by decide), lt b3 (by decide), lt b4 (by decide), lt b6 (by decide)⟩⟩
/-! ### twists -/
def twi (d : Int) (c : Cv) : Cv := ⟨0, 0, 0, -27 * d * d * c.c4, -54 * d ^ 3 * c.c6⟩
theorem twi_c4 (d : Int) (c : Cv) : (twi d c).c4 = 1296 * (d * d) * c.c4 := by
  show (0 * 0 + 4 * 0 : Int) * (0 * 0 + 4 * 0) - 24 * (2 * (-27 * d * d * c.c4) + 0 * 0) = _
  grind
theorem twi_c6 (d : Int) (c : Cv) : (twi d c).c6 = 46656 * (d * d * d) * c.c6 := by
  show 36 * (0 * 0 + 4 * 0 : Int) * (2 * (-27 * d * d * c.c4) + 0 * 0) - (0 * 0 + 4 * 0) * (0 * 0 + 4 * 0) * (0 * 0 + 4 * 0) - 216 * (0 * 0 + 4 * (-54 * d ^ 3 * c.c6)) = _
  grind
theorem twi_lk {d : Int} {c : Cv} (h : c.Tn) (hd : c.disc ≠ 0) (d0 : d ≠ 0) (d1 : d.natAbs ≤ 5) : (twi d c).Lk := by
  have k4 := h.c4
  have k6 := h.c6
  have dd := mul_na d1 d1
  have ddd := mul_na dd d1
  have b4 : (twi d c).a4.natAbs ≤ 2000000 := by
    show (-27 * d * d * c.c4).natAbs ≤ _
    have z := mul_na dd k4
    rw [show -27 * d * d * c.c4 = -27 * (d * d * c.c4) by grind]
    omega
  have b6 : (twi d c).a6.natAbs ≤ 1000000000 := by
    show (-54 * d ^ 3 * c.c6).natAbs ≤ _
    have z := mul_na ddd k6
    rw [show -54 * d ^ 3 * c.c6 = -54 * (d * d * d * c.c6) by grind]
    omega
  have c4 : (twi d c).c4.natAbs ≤ 1000000000 := by
    rw [twi_c4]
    have z := mul_na dd k4
    rw [show 1296 * (d * d) * c.c4 = 1296 * (d * d * c.c4) by grind]
    omega
  have c6 : (twi d c).c6.natAbs ≤ 10000000000000 := by
    rw [twi_c6]
    have z := mul_na ddd k6
    rw [show 46656 * (d * d * d) * c.c6 = 46656 * (d * d * d * c.c6) by grind]
    omega
  have hd' : (twi d c).disc ≠ 0 := fun e => hd (by
    rw [disc0] at e ⊢
    rw [twi_c4, twi_c6] at e
    have n6 : d ^ 6 ≠ 0 := Int.pow_ne_zero d0
    have k : d ^ 6 * (2176782336 * (c.c4 * c.c4 * c.c4 - c.c6 * c.c6)) = 0 := by grind
    rcases Int.mul_eq_zero.mp k with z | z
    · exact absurd z n6
    · omega)
  exact ⟨⟨⟨(B.lit (by decide) : B 12 0), (B.lit (by decide) : B 12 0), (B.lit (by decide) : B 12 0), by unfold B; omega, by unfold B; omega⟩, hd', c4, c6⟩, ⟨(B.lit (by decide) : B 40 0), (B.lit (by decide) : B 40 0), (B.lit (by decide) : B 40 0), by unfold B; omega, by unfold B; omega⟩⟩
theorem dvd_sq {k y : Nat} (hk : k = 2 ∨ k = 3 ∨ k = 5) (h : k ∣ y * y) : k ∣ y := by
  have h1 := Nat.mod_eq_zero_of_dvd h
  rw [Nat.mul_mod] at h1
  apply Nat.dvd_of_mod_eq_zero
  rcases hk with rfl | rfl | rfl
  · rcases (show y % 2 = 0 ∨ y % 2 = 1 by omega) with z | z <;> rw [z] at h1 ⊢ <;> first | rfl | exact absurd h1 (by decide)
  · rcases (show y % 3 = 0 ∨ y % 3 = 1 ∨ y % 3 = 2 by omega) with z | z | z <;> rw [z] at h1 ⊢ <;> first | rfl | exact absurd h1 (by decide)
  · rcases (show y % 5 = 0 ∨ y % 5 = 1 ∨ y % 5 = 2 ∨ y % 5 = 3 ∨ y % 5 = 4 by omega) with z | z | z | z | z <;> rw [z] at h1 ⊢ <;> first | rfl | exact absurd h1 (by decide)
theorem nosq {k : Nat} (hk : k = 2 ∨ k = 3 ∨ k = 5) : ∀ (n x y : Nat), x ≤ n → 0 < x → k * (x * x) ≠ y * y
  | 0, x, y, h, h0 => by omega
  | n + 1, x, y, h, h0 => fun e => by
    obtain ⟨z, rfl⟩ := dvd_sq hk (⟨x * x, e.symm⟩ : k ∣ y * y)
    have k0 : 0 < k := by omega
    have e2 : k * (z * z) = x * x := by
      apply Nat.eq_of_mul_eq_mul_left k0
      calc k * (k * (z * z)) = k * z * (k * z) := by ac_rfl
        _ = k * (x * x) := e.symm
    have z0 : 0 < z := Nat.pos_of_ne_zero fun q => by
      rw [q] at e2
      have := Nat.mul_pos h0 h0
      omega
    have zx : z < x := by
      rcases Nat.lt_or_ge z x with q | q
      · exact q
      · have h1 := Nat.mul_le_mul q q
        have h2 := Nat.mul_pos z0 z0
        have h3 : 2 * (z * z) ≤ k * (z * z) := Nat.mul_le_mul_right _ (by omega)
        omega
    exact nosq hk n z x (by omega) z0 e2
theorem sq_inj {a b : Nat} (h : a * a = b * b) : a = b := by
  rcases Nat.lt_trichotomy a b with z | z | z
  · have := Nat.mul_lt_mul_of_lt_of_le z (Nat.le_of_lt z) (by omega)
    omega
  · exact z
  · have := Nat.mul_lt_mul_of_lt_of_le z (Nat.le_of_lt z) (by omega)
    omega
theorem cu_inj {a b : Nat} (h : a * a * a = b * b * b) : a = b := by
  rcases Nat.lt_trichotomy a b with z | z | z
  · have h1 := Nat.mul_le_mul (Nat.mul_le_mul (Nat.le_of_lt z) (Nat.le_of_lt z)) (Nat.le_refl a)
    have h2 := Nat.mul_lt_mul_of_pos_left z (Nat.mul_pos (show 0 < b by omega) (show 0 < b by omega))
    omega
  · exact z
  · have h1 := Nat.mul_le_mul (Nat.mul_le_mul (Nat.le_of_lt z) (Nat.le_of_lt z)) (Nat.le_refl b)
    have h2 := Nat.mul_lt_mul_of_pos_left z (Nat.mul_pos (show 0 < a by omega) (show 0 < a by omega))
    omega
theorem twi_same {d : Int} {c f e : Cv} {v w : Nat} (hd : d = -1 ∨ d = 2 ∨ d = -3 ∨ d = 5 ∨ d = -2) (h : Lst c.c4 c.c6 v f) (k : Lst (twi d c).c4 (twi d c).c6 w e) : e = f ↔ (d = -1 ∧ c.c6 = 0) := by
  constructor
  · rintro rfl
    obtain ⟨e4, e6, hdd⟩ := h.nums
    obtain ⟨f4, f6, -⟩ := k.nums
    rw [twi_c4, e4] at f4
    rw [twi_c6, e6] at f6
    have v0 := h.v0
    have w0 := k.v0
    have v60 : 0 < 6 * v := by omega
    have from4 : e.c4 ≠ 0 → d = -1 := fun z => by
      have g : 1296 * (d * d) * (v : Int) ^ 4 = (w : Int) ^ 4 := by
        apply Int.eq_of_mul_eq_mul_right z
        rw [← f4]
        grind
      have gn : (d.natAbs * (6 * v * (6 * v))) * (d.natAbs * (6 * v * (6 * v))) = (w * w) * (w * w) := by
        have g1 := congrArg Int.natAbs g
        rw [Int.natAbs_mul, Int.natAbs_mul, Int.natAbs_mul, Int.natAbs_pow, Int.natAbs_pow, Int.natAbs_natCast, Int.natAbs_natCast] at g1
        have g2 : (1296 : Int).natAbs = 1296 := rfl
        rw [g2] at g1
        have l : (d.natAbs * (6 * v * (6 * v))) * (d.natAbs * (6 * v * (6 * v))) = 1296 * (d.natAbs * d.natAbs) * v ^ 4 := by grind
        have r : (w * w) * (w * w) = w ^ 4 := by grind
        rw [l, r, g1]
      have g3 := sq_inj gn
      rcases hd with rfl | rfl | rfl | rfl | rfl
      · rfl
      · exact absurd g3 (nosq (.inl rfl) _ _ _ (Nat.le_refl _) v60)
      · exact absurd g3 (nosq (.inr (.inl rfl)) _ _ _ (Nat.le_refl _) v60)
      · exact absurd g3 (nosq (.inr (.inr rfl)) _ _ _ (Nat.le_refl _) v60)
      · exact absurd g3 (nosq (.inl rfl) _ _ _ (Nat.le_refl _) v60)
    have from6 : e.c6 ≠ 0 → False := fun z => by
      have g : 46656 * (d * d * d) * (v : Int) ^ 6 = (w : Int) ^ 6 := by
        apply Int.eq_of_mul_eq_mul_right z
        rw [← f6]
        grind
      have wp : (0 : Int) < (w : Int) ^ 6 := Int.pow_pos (by omega)
      have vp : (0 : Int) < (v : Int) ^ 6 := Int.pow_pos (by omega)
      have key : ∀ k : Nat, k = 2 ∨ k = 3 ∨ k = 5 → 46656 * ((k : Int) * k * k) * (v : Int) ^ 6 = (w : Int) ^ 6 → False := fun k hk g => by
        have gn : k * (6 * v * (6 * v)) * (k * (6 * v * (6 * v))) * (k * (6 * v * (6 * v))) = (w * w) * (w * w) * (w * w) := by
          have g1 : ((46656 * (k * k * k) * v ^ 6 : Nat) : Int) = ((w ^ 6 : Nat) : Int) := by
            rw [Int.natCast_mul, Int.natCast_mul, Int.natCast_mul, Int.natCast_mul, Int.natCast_pow, Int.natCast_pow]
            exact g
          have g2 : 46656 * (k * k * k) * v ^ 6 = w ^ 6 := Int.ofNat_inj.mp g1
          have l : k * (6 * v * (6 * v)) * (k * (6 * v * (6 * v))) * (k * (6 * v * (6 * v))) = 46656 * (k * k * k) * v ^ 6 := by grind
          have r : (w * w) * (w * w) * (w * w) = w ^ 6 := by grind
          rw [l, r, g2]
        exact nosq hk _ _ _ (Nat.le_refl _) v60 (cu_inj gn)
      rcases hd with rfl | rfl | rfl | rfl | rfl
      · omega
      · exact key 2 (.inl rfl) g
      · omega
      · exact key 5 (.inr (.inr rfl)) g
      · omega
    have z6 : e.c6 = 0 := Decidable.byContradiction from6
    have z4 : e.c4 ≠ 0 := fun z => by
      have := disc_eq e
      rw [z, z6] at this
      omega
    refine ⟨from4 z4, ?_⟩
    rw [e6, z6, Int.mul_zero]
  · rintro ⟨rfl, hz⟩
    have u := h.up (S := 6) (by decide)
    have e4 : (twi (-1) c).c4 = ((6 : Nat) : Int) ^ 4 * c.c4 := by
      rw [twi_c4]
      show 1296 * (-1 * -1 : Int) * c.c4 = 6 ^ 4 * c.c4
      omega
    have e6 : (twi (-1) c).c6 = ((6 : Nat) : Int) ^ 6 * c.c6 := by
      rw [twi_c6, hz, Int.mul_zero, Int.mul_zero]
    rw [← e4, ← e6] at u
    exact (k.uniq u).2
/-! ### the end -/
def cEnd : Cv := ⟨0, 0, 0, -16, 16⟩
theorem end_ok : cEnd.Ok := ⟨⟨(B.lit (by decide) : B 12 0), (B.lit (by decide) : B 12 0), (B.lit (by decide) : B 12 0), (B.lit (by decide) : B 60 (-16)), (B.lit (by decide) : B 110 16)⟩, by decide, by decide, by decide⟩
theorem end_is {v : Nat} {d : Cv} (h : Lst cEnd.c4 cEnd.c6 v d) : v = 2 ∧ d = ⟨0, 0, 1, -1, 0⟩ := by
  have e4 : cEnd.c4 = 768 := by decide
  have e6 : cEnd.c6 = -13824 := by decide
  rw [e4, e6] at h
  have hc : curveOf 48 (-216) = some ⟨0, 0, 1, -1, 0⟩ := by decide +kernel
  have l2 : Lets 768 (-13824) 2 := ⟨by decide, 48, -216, by decide, by decide, isp_curve.mpr ⟨_, hc⟩⟩
  obtain ⟨k, rfl⟩ := ((h.all 2).mp l2).2
  obtain ⟨x, y, f4, f6, hd⟩ := h.at_
  have k0 : 0 < k := by
    have := h.v0
    omega
  rcases (show k = 1 ∨ k = 2 ∨ 3 ≤ k by omega) with rfl | rfl | z
  · refine ⟨rfl, ?_⟩
    have x48 : x = 48 := by
      have : ((2 * 1 : Nat) : Int) ^ 4 = 16 := by decide
      rw [this] at f4
      omega
    have y216 : y = -216 := by
      have : ((2 * 1 : Nat) : Int) ^ 6 = 64 := by decide
      rw [this] at f6
      omega
    rw [x48, y216, hc] at hd
    exact (Option.some.inj hd).symm
  · exfalso
    have : ((2 * 2 : Nat) : Int) ^ 6 = 4096 := by decide
    rw [this] at f6
    omega
  · exfalso
    have h1 : (768 : Int).natAbs = (2 * k) ^ 4 * x.natAbs := by rw [f4, Int.natAbs_mul, Int.natAbs_pow, Int.natAbs_natCast]
    have h2 := Nat.pow_le_pow_left (show 6 ≤ 2 * k by omega) 4
    have x0 : 0 < x.natAbs := Nat.pos_of_ne_zero fun q => by
      rw [q, Nat.mul_zero] at h1
      exact absurd h1 (by decide)
    have h3 := Nat.mul_le_mul h2 x0
    have h4 : (768 : Int).natAbs = 768 := rfl
    omega
end K13
set_option Elab.async false
set_option linter.all false
set_option maxRecDepth 100000
set_option maxHeartbeats 4000000
namespace K13
open PySem PySem.Spec PyProof.Rows L2 Gd QM
def dEnd : PyData := .list [dcv ⟨0, 0, 1, -1, 0⟩, .int 2]
theorem eqv_bl (a b : Bool) : PyData.eqv (.bool a) (.bool b) = decide (a = b) := by
  cases a <;> cases b <;> rfl
section
variable {P : Program} {w : World} {K : PySem.W.Frag} {mg : Str → Option Value} {base : Heap}
def sp_law (K : PySem.W.Frag) : Sp := fun vs H Q _ => ∃ (a : Addr) (ns : List Int), vs = [.ref a] ∧ SqL K H a (ns.map V.int) ∧ ns.length ≤ 63 ∧ ∀ H', Q (.bl true) H'
abbrev s_law : Stmt := topS 71
theorem sc_law : FnScope ["script", "k", "m", "five_v", "first", "scale", "d", "numbers", "twisted", "other", "told"] ["script"] (defScope s_law) := ⟨rfl, rfl, rfl, by decide +kernel, rfl, by decide +kernel, by decide +kernel⟩
theorem k_law {fl : Addr} {fdl : FuncData} (T : Tx K mg) (Fl : Fun K "law" "law" s_law fl fdl) (c_least_model : Kl P w K mg base 10 "least_model" (sp_least_model K)) (c_law_begun : Kl P w K mg base 1 "_law_begun" (sp_law_begun K)) (c_law_curve : Kl P w K mg base 3 "_law_curve" (sp_law_curve K)) (c_law_least_right : Kg P w K mg base 11 "_law_least_right" (sp_law_least_right K)) (c_law_of : Kl P w K mg base 2 "_law_of" (sp_law_of K)) (c_law_numbers : Kl P w K mg base 1 "_law_numbers" (sp_law_numbers K)) (c_law_moved : Kl P w K mg base 5 "_law_moved" (sp_law_moved K)) (c_scale_of : Kl P w K mg base 10 "scale_of" (sp_scale_of K)) : FnG P w K mg base 12 fl fdl ["script"] (sp_law K) := by
  have nd := sc_law.nd
  refine FnG.by_body Fl sc_law (fun vs H Q E h => ?_) (fun cdv A outer s H vs Q E hgd hr h => ?_)
  · obtain ⟨_, _, rfl, _⟩ := h
    rfl
  · obtain ⟨a, ns, rfl, hx, hl, q⟩ := h
    have hu1 := hu_of hr
    refine ⟨_, (pss_cons (ps_for PassesOwn.never rfl (pi_range1 (by rfl) T.range (pa_cons pe_int pa_nil)) (pg_name (i := 1) nd rfl (by first | exact Or.inl rfl | exact Or.inr rfl)) (pss_cons (ps_set (i := 2) nd rfl (by first | exact Or.inl rfl | exact Or.inr rfl) (pe_k c_law_begun  hr (by decide) (by rfl) (pa_cons (pv 0) (pa_cons (pv 1) pa_nil))))
      (pss_cons (ps_set (i := 3) nd rfl (by first | exact Or.inl rfl | exact Or.inr rfl) (pe_k c_law_curve  hr (by decide) (by rfl) (pa_cons (pv 2) (pa_cons (pe_k c_law_of  hr (by decide) (by rfl) (pa_cons (pv 2) (pa_cons (pe_lst (pa_cons pe_int (pa_cons pe_int (pa_cons pe_int pa_nil)))) pa_nil))) pa_nil))))
      (pss_cons (ps_set (i := 4) nd rfl (by first | exact Or.inl rfl | exact Or.inr rfl) (pe_g c_law_least_right hgd hr (by decide) (by rfl) (pa_cons (pv 3) pa_nil)))
      (pss_cons (ps_if (pt_cmpR op_isN (pv 4) pe_non (nomark _)) (pss_one (ps_ret pe_bl)) pss_nil)
      (pss_cons (ps_set (i := 5) nd rfl (by first | exact Or.inl rfl | exact Or.inr rfl) (pe_k c_law_of  hr (by decide) (by rfl) (pa_cons (pv 2) (pa_cons (pe_lst (pa_cons pe_int (pa_cons pe_int (pa_cons pe_int (pa_cons pe_int (pa_cons pe_int (pa_cons pe_int pa_nil))))))) pa_nil))))
      (pss_cons (ps_if (pt_cmpR (op_neD hr.units) (pe_g c_law_least_right hgd hr (by decide) (by rfl) (pa_cons (pe_k c_law_moved  hr (by decide) (by rfl) (pa_cons (pv 2) (pa_cons (pv 3) (pa_cons (pv 5) pa_nil)))) pa_nil)) (pv 4) (nomark _)) (pss_one (ps_ret pe_bl)) pss_nil)
      (pss_cons (ps_par (i := 6) (j := 7) (by rfl) nd rfl rfl (by decide) rfl rfl (pa_cons (pe_k c_law_of  hr (by decide) (by rfl) (pa_cons (pv 2) (pa_cons (pe_lst (pa_cons (pe_un un_neg pe_int) (pa_cons pe_int (pa_cons (pe_un un_neg pe_int) (pa_cons pe_int (pa_cons (pe_un un_neg pe_int) pa_nil)))))) pa_nil))) (pa_cons (pe_k c_law_numbers  hr (by decide) (by rfl) (pa_cons (pv 3) pa_nil)) pa_nil)) (by rfl))
      (pss_cons (ps_set (i := 8) nd rfl (by first | exact Or.inl rfl | exact Or.inr rfl) (pe_tup (pa_cons pe_int (pa_cons pe_int (pa_cons pe_int (pa_cons (pe_op op_mulW (pe_op op_mulW (pe_op op_mul (pe_un un_neg pe_int) (pv 6)) (pv 6)) (pe_ix ix_tup (pv 7) pe_int (fun _ _ => rfl))) (pa_cons (pe_op op_mulW (pe_op op_mul (pe_un un_neg pe_int) (pe_op op_pow (pv 6) pe_int)) (pe_ix ix_tup (pv 7) pe_int (fun _ _ => rfl))) pa_nil)))))))
      (pss_cons (ps_set (i := 9) nd rfl (by first | exact Or.inl rfl | exact Or.inr rfl) (pe_g c_law_least_right hgd hr (by decide) (by rfl) (pa_cons (pv 8) pa_nil)))
      (pss_one (ps_if (PW.pt (pw_or (pt_cmpR op_isN (pv 9) pe_non (nomark _)) (pw_or1 (pt_cmpR (op_neD hr.units) (pe_cmpR (op_eqD hr.units) (pv 9) (pv 4) (nomark _)) (pe_and (pe_cmpR op_eq (pv 6) (pe_un un_neg pe_int) (nomark _)) (pe_one (pe_cmpR op_eq (pe_ix ix_tup (pv 7) pe_int (fun _ _ => rfl)) pe_int (nomark _)))) (nomark _))))) (pss_one (ps_ret pe_bl)) pss_nil))))))))))))
      (pss_cons (ps_set (i := 10) nd rfl (by first | exact Or.inl rfl | exact Or.inr rfl) (pe_k c_least_model  hr (by decide) (by rfl) (pa_cons (pe_tup (pa_cons pe_int (pa_cons pe_int (pa_cons pe_int (pa_cons (pe_un un_neg pe_int) (pa_cons pe_int pa_nil)))))) pa_nil)))
      (pss_one (ps_ret (pe_cmpR op_eq (pe_callB (call_reprD hgd hr.units) (by rfl) T.repr (by decide +kernel) (pa_cons (pe_lst (pa_cons (pe_ix ix_tup (pv 10) pe_int (fun _ _ => rfl)) (pa_cons (pe_k c_scale_of  hr (by decide) (by rfl) (pa_cons (pe_tup (pa_cons pe_int (pa_cons pe_int (pa_cons pe_int (pa_cons (pe_un un_neg pe_int) (pa_cons pe_int pa_nil)))))) pa_nil)) pa_nil))) pa_nil)) (pe_callB (call_reprD hgd hr.units) (by rfl) T.repr (by decide +kernel) (pa_cons (pe_lst (pa_cons (pe_tup (pa_cons pe_int (pa_cons pe_int (pa_cons pe_int (pa_cons (pe_un un_neg pe_int) (pa_cons pe_int pa_nil)))))) (pa_cons pe_int pa_nil))) pa_nil)) (nomark _)))))), ?_⟩
    refine ⟨3, rfl, by decide, by decide, for_range (lo := 0) (n := 3) (fun i σ H2 => Same H H2 ∧ ∃ v1 v2 v3 v4 v5 v6 v7 v8 v9 : Option V, σ = [some (.ref a), v1, v2, v3, v4, v5, v6, v7, v8, v9, none]) ⟨Same.refl _, none, none, none, none, none, none, none, none, none, rfl⟩ ?_ ?_⟩
    · rintro i σ H2 hi ⟨s2, v1, v2, v3, v4, v5, v6, v7, v8, v9, rfl⟩
      refine ⟨_, rfl, _, rfl, a, _, ns, rfl, s2.seq hx, hl, by omega, by omega, fun H3 dr cl s3 nm ncl hM => ?_⟩
      first | refine sigN [some (.ref a), some (.int (0 + (i : Int))), some (.ref dr), v3, v4, v5, v6, v7, v8, v9, none] (by rfl) ?_ | refine sig [some (.ref a), some (.int (0 + (i : Int))), some (.ref dr), v3, v4, v5, v6, v7, v8, v9, none] (by rfl) ?_
      refine ⟨_, rfl, _, rfl, (by show 3 ≤ sizeLine; decide), fun l nl => ?_⟩
      have s4 := Same.new (H := H3) (p := l) (o := .lst [.int 4, .int 9, .int 30]) nl
      have gl : upd H3 l (.lst [.int 4, .int 9, .int 30]) l = some (.lst [.int 4, .int 9, .int 30]) := upd_same
      generalize upd H3 l (.lst [.int 4, .int 9, .int 30]) = H4 at s4 gl ⊢
      refine ⟨dr, cl, l, _, 0, rfl, lst_of gl, by show 0 < 3; decide, by show 3 ≤ 1000; decide, by decide, hM.same s4, fun H5 xx b5 m5 hxx => ?_⟩
      obtain ⟨z, rfl, z0, z1⟩ : ∃ z : Int, xx = .int z ∧ 0 ≤ z ∧ z ≤ 30 := by
        simp only [List.mem_cons, List.not_mem_nil, or_false] at hxx
        rcases hxx with rfl | rfl | rfl
        · exact ⟨4, rfl, by decide, by decide⟩
        · exact ⟨9, rfl, by decide, by decide⟩
        · exact ⟨30, rfl, by decide, by decide⟩
      refine ⟨dr, cl, z, 1, rfl, z0, z1, by decide, m5, fun H6 tc c b6 m6 htc hT hd => ?_⟩
      first | refine sigN [some (.ref a), some (.int (0 + (i : Int))), some (.ref dr), some (.ref tc), v4, v5, v6, v7, v8, v9, none] (by rfl) ?_ | refine sig [some (.ref a), some (.int (0 + (i : Int))), some (.ref dr), some (.ref tc), v4, v5, v6, v7, v8, v9, none] (by rfl) ?_
      have hlk := hT.lk hd
      refine ⟨_, rfl, tc, c, rfl, htc, hlk, fun H7 pf f v s7 hlf hpf => ?_⟩
      first | refine sigN [some (.ref a), some (.int (0 + (i : Int))), some (.ref dr), some (.ref tc), some (.ref pf), v5, v6, v7, v8, v9, none] (by rfl) ?_ | refine sig [some (.ref a), some (.int (0 + (i : Int))), some (.ref dr), some (.ref tc), some (.ref pf), v5, v6, v7, v8, v9, none] (by rfl) ?_
      refine ⟨_, rfl, rfl, _, rfl, iteN (by simp) ?_⟩
      have bA : But dr H3 H7 := (But.of s4).trans (b5.trans (b6.trans (But.of s7)))
      have mA : MAt H7 dr cl 301 := (m6.same s7).up (by omega)
      have htc7 := Same.tup s7 htc
      clear s4 gl b5 m5 b6 m6 s7 htc
      refine ⟨_, rfl, (by show 6 ≤ sizeLine; decide), fun l nl => ?_⟩
      have s8 := Same.new (H := H7) (p := l) (o := .lst [.int 1, .int 2, .int 3, .int 4, .int 6, .int 5]) nl
      have gl : upd H7 l (.lst [.int 1, .int 2, .int 3, .int 4, .int 6, .int 5]) l = some (.lst [.int 1, .int 2, .int 3, .int 4, .int 6, .int 5]) := upd_same
      generalize upd H7 l (.lst [.int 1, .int 2, .int 3, .int 4, .int 6, .int 5]) = H8 at s8 gl ⊢
      refine ⟨dr, cl, l, _, 301, rfl, lst_of gl, by show 0 < 6; decide, by show 6 ≤ 1000; decide, by decide, mA.same s8, fun H9 xx b9 m9 hxx => ?_⟩
      obtain ⟨S, rfl, S0, S1⟩ : ∃ z : Int, xx = .int z ∧ 1 ≤ z ∧ z ≤ 6 := by
        simp only [List.mem_cons, List.not_mem_nil, or_false] at hxx
        rcases hxx with rfl | rfl | rfl | rfl | rfl | rfl <;> exact ⟨_, rfl, by decide, by decide⟩
      first | refine sigN [some (.ref a), some (.int (0 + (i : Int))), some (.ref dr), some (.ref tc), some (.ref pf), some (.int (S)), v6, v7, v8, v9, none] (by rfl) ?_ | refine sig [some (.ref a), some (.int (0 + (i : Int))), some (.ref dr), some (.ref tc), some (.ref pf), some (.int (S)), v6, v7, v8, v9, none] (by rfl) ?_
      have htc9 := b9.seqT (mA.same s8) (Same.tup s8 htc7)
      have hpf9 := b9.seqT (mA.same s8) (Same.tup s8 hpf)
      refine ⟨_, rfl, _, rfl, _, rfl, dr, cl, tc, c, S, 302, rfl, by decide, m9, htc9, hT, S0, S1, fun Ha tm r s z ba ma htm r0 r1 u0 u1 w0 w1 => ?_⟩
      refine ⟨tm, mvd S r s z c, rfl, htm, mvd_lk hT hd S0 S1 r0 r1 u0 u1 w0 w1, fun Hb pg g v' sb hlg hpg => ?_⟩
      have hgf : g = f := by
        obtain ⟨k, rfl⟩ : ∃ k : Nat, S = (k : Int) := ⟨S.toNat, by omega⟩
        have u := hlf.up (S := k) (by omega)
        rw [mvd_c4, mvd_c6] at hlg
        exact (hlg.uniq u).2
      subst hgf
      have hpfb := Same.tup sb (ba.seqT m9 hpf9)
      have htcb := Same.tup sb (ba.seqT m9 htc9)
      refine ⟨_, rfl, dcv g, dcv g, dp_cv hpg, dp_cv hpfb, rfl, rfl, _, rfl, ?_⟩
      rw [eqv_cv, decide_eq_true rfl]
      refine iteN (by decide) ?_
      have bB : But dr H3 Hb := bA.trans ((But.of s8).trans (b9.trans (ba.trans (But.of sb))))
      have mB : MAt Hb dr cl 305 := (ma.same sb).up (by omega)
      clear s8 gl b9 m9 htc9 hpf9 ba ma sb hpg htm htc7 hpf bA mA
      refine ⟨_, rfl, _, rfl, _, rfl, _, rfl, (by show 5 ≤ sizeLine; decide), fun l nl => ?_⟩
      rw [show upd Hb l (.lst [(fun i : Int => V.int (-i)) 1, .int 2, (fun i : Int => V.int (-i)) 3, .int 5, (fun i : Int => V.int (-i)) 2]) = upd Hb l (.lst [.int (-1), .int 2, .int (-3), .int 5, .int (-2)]) from rfl]
      have sc := Same.new (H := Hb) (p := l) (o := .lst [.int (-1), .int 2, .int (-3), .int 5, .int (-2)]) nl
      have gl : upd Hb l (.lst [.int (-1), .int 2, .int (-3), .int 5, .int (-2)]) l = some (.lst [.int (-1), .int 2, .int (-3), .int 5, .int (-2)]) := upd_same
      generalize upd Hb l (.lst [.int (-1), .int 2, .int (-3), .int 5, .int (-2)]) = Hc at sc gl ⊢
      refine ⟨dr, cl, l, _, 305, rfl, lst_of gl, by show 0 < 5; decide, by show 5 ≤ 1000; decide, by decide, mB.same sc, fun Hd xx bd md hxx => ?_⟩
      obtain ⟨d, rfl, hdd⟩ : ∃ z : Int, xx = .int z ∧ (z = -1 ∨ z = 2 ∨ z = -3 ∨ z = 5 ∨ z = -2) := by
        simp only [List.mem_cons, List.not_mem_nil, or_false] at hxx
        rcases hxx with rfl | rfl | rfl | rfl | rfl
        · exact ⟨_, rfl, .inl rfl⟩
        · exact ⟨_, rfl, .inr (.inl rfl)⟩
        · exact ⟨_, rfl, .inr (.inr (.inl rfl))⟩
        · exact ⟨_, rfl, .inr (.inr (.inr (.inl rfl)))⟩
        · exact ⟨_, rfl, .inr (.inr (.inr (.inr rfl)))⟩
      have d0 : d ≠ 0 := by omega
      have d5 : d.natAbs ≤ 5 := by omega
      have dB : B 3 d := by
        unfold B
        omega
      have htcd := bd.seqT (mB.same sc) (Same.tup sc htcb)
      have hpfd := bd.seqT (mB.same sc) (Same.tup sc hpfb)
      refine ⟨_, rfl, tc, c, rfl, htcd, hlk.ok.md, fun tn ntn => ?_⟩
      have se := Same.new (H := Hd) (p := tn) (o := .tup c.nums) ntn
      have gn : upd Hd tn (.tup c.nums) tn = some (.tup c.nums) := upd_same
      generalize upd Hd tn (.tup c.nums) = He at se gn ⊢
      refine ⟨_, _, rfl, ?_⟩
      first | refine sigN [some (.ref a), some (.int (0 + (i : Int))), some (.ref dr), some (.ref tc), some (.ref pf), some (.int (S)), some (.int (d)), some (.ref tn), v8, v9, none] (by rfl) ?_ | refine sig [some (.ref a), some (.int (0 + (i : Int))), some (.ref dr), some (.ref tc), some (.ref pf), some (.int (S)), some (.int (d)), some (.ref tn), v8, v9, none] (by rfl) ?_
      have k4 : B 11 c.c4 := by
        have := hT.c4
        unfold B
        omega
      have k6 : B 17 c.c6 := by
        have := hT.c6
        unfold B
        omega
      refine ⟨_, rfl, _, rfl, _, _, rfl, rfl, Or.inl ⟨by decide, by decide⟩, _, rfl, _, _, rfl, rfl, ((B.lit (n := 5) (x := -27) (by decide)).mul dB).mulW dB (by decide), _, rfl, tn, _, 4, .int c.c4, rfl, rfl, tup_of gn, rfl, _, _, rfl, rfl, (((B.lit (n := 5) (x := -27) (by decide)).mul dB).mul dB).mulW k4 (by decide), ?_⟩
      refine ⟨_, rfl, _, rfl, _, _, rfl, rfl, ⟨by decide, by decide, dB.up (by decide)⟩, _, _, rfl, rfl, Or.inl ⟨by decide, by decide⟩, _, rfl, tn, _, 5, .int c.c6, rfl, rfl, tup_of gn, rfl, _, _, rfl, rfl, ((B.lit (n := 6) (x := -54) (by decide)).mul (dB.pow 3)).mulW k6 (by decide), (by show 5 ≤ sizeLine; decide), fun tw ntw => ?_⟩
      rw [show upd He tw (.tup [.int 0, .int 0, .int 0, .int (-27 * d * d * c.c4), .int (-54 * d ^ (3 : Int).toNat * c.c6)]) = upd He tw (.tup (twi d c).tup) from rfl]
      have sf := Same.new (H := He) (p := tw) (o := .tup (twi d c).tup) ntw
      have gw : upd He tw (.tup (twi d c).tup) tw = some (.tup (twi d c).tup) := upd_same
      generalize upd He tw (.tup (twi d c).tup) = Hf at sf gw ⊢
      first | refine sigN [some (.ref a), some (.int (0 + (i : Int))), some (.ref dr), some (.ref tc), some (.ref pf), some (.int (S)), some (.int (d)), some (.ref tn), some (.ref tw), v9, none] (by rfl) ?_ | refine sig [some (.ref a), some (.int (0 + (i : Int))), some (.ref dr), some (.ref tc), some (.ref pf), some (.int (S)), some (.int (d)), some (.ref tn), some (.ref tw), v9, none] (by rfl) ?_
      refine ⟨_, rfl, tw, twi d c, rfl, tup_of gw, twi_lk hT hd d0 d5, fun Hg po e v'' sg hle hpo => ?_⟩
      first | refine sigN [some (.ref a), some (.int (0 + (i : Int))), some (.ref dr), some (.ref tc), some (.ref pf), some (.int (S)), some (.int (d)), some (.ref tn), some (.ref tw), some (.ref po), none] (by rfl) ?_ | refine sig [some (.ref a), some (.int (0 + (i : Int))), some (.ref dr), some (.ref tc), some (.ref pf), some (.int (S)), some (.int (d)), some (.ref tn), some (.ref tw), some (.ref po), none] (by rfl) ?_
      have hiff := twi_same hdd hlf hle
      have hpfg := Same.tup (se.trans (sf.trans sg)) hpfd
      refine ⟨_, rfl, rfl, _, rfl, iteN (by simp) ?_⟩
      refine ⟨_, rfl, _, rfl, dcv e, dcv g, dp_cv hpo, dp_cv hpfg, rfl, rfl, ?_⟩
      rw [eqv_cv]
      have gng := tup_of (K := K) ((sf.trans sg) _ _ gn)
      have bG : But dr H3 Hg := bB.trans ((But.of sc).trans (bd.trans (But.of (se.trans (sf.trans sg)))))
      have fin : Same H Hg ∧ ∃ v1 v2 v3 v4 v5 v6 v7 v8 v9 : Option V, [some (V.ref a), some (V.int (0 + (i : Int))), some (.ref dr), some (.ref tc), some (.ref pf), some (.int S), some (.int d), some (.ref tn), some (.ref tw), some (.ref po), none] = [some (V.ref a), v1, v2, v3, v4, v5, v6, v7, v8, v9, none] := ⟨s2.trans (But.same s3 bG nm), _, _, _, _, _, _, _, _, _, rfl⟩
      refine ⟨_, rfl, _, rfl, rfl, _, rfl, ?_⟩
      rw [dec_int]
      by_cases hd1 : d = -1
      · refine iteY (beq_iff_eq.mpr hd1) ?_
        refine ⟨_, rfl, tn, _, 5, .int c.c6, rfl, rfl, gng, rfl, rfl, ?_⟩
        refine ⟨.bool (decide (e = g)), .bool (decide (V.int c.c6 = V.int 0)), .bl _, .bl _, rfl, rfl, _, rfl, ?_⟩
        have eb : decide (e = g) = decide (V.int c.c6 = V.int 0) := by
          rw [Bool.eq_iff_iff, decide_eq_true_iff, decide_eq_true_iff, hiff]
          exact ⟨fun y => by rw [y.2], fun y => ⟨hd1, V.int.inj y⟩⟩
        rw [eqv_bl, decide_eq_true eb]
        refine iteN (by decide) ?_
        exact fin
      · refine iteN (fun y => hd1 (beq_iff_eq.mp y)) ?_
        refine ⟨.bool (decide (e = g)), .bool false, .bl _, .bl _, rfl, rfl, _, rfl, ?_⟩
        have eb : decide (e = g) = false := decide_eq_false fun y => hd1 (hiff.mp y).1
        rw [eqv_bl, decide_eq_true eb]
        refine iteN (by decide) ?_
        exact fin
    · rintro σ H2 ⟨s2, v1, v2, v3, v4, v5, v6, v7, v8, v9, rfl⟩
      refine ⟨_, rfl, (by show 5 ≤ sizeLine; decide), fun t1 n1 => ?_⟩
      rw [show upd H2 t1 (.tup [.int 0, .int 0, .int 0, (fun i : Int => V.int (-i)) 16, .int 16]) = upd H2 t1 (.tup cEnd.tup) from rfl]
      have s3 := Same.new (H := H2) (p := t1) (o := .tup cEnd.tup) n1
      have g1 : upd H2 t1 (.tup cEnd.tup) t1 = some (.tup cEnd.tup) := upd_same
      generalize upd H2 t1 (.tup cEnd.tup) = H3 at s3 g1 ⊢
      refine ⟨t1, cEnd, rfl, tup_of g1, end_ok, fun H4 t l o v d s4 hl gt hlc hch => ?_⟩
      obtain ⟨rfl, rfl⟩ := end_is hl
      refine ⟨_, rfl, t, _, 0, .ref l, rfl, rfl, tup_of gt, rfl, ?_⟩
      refine ⟨_, rfl, (by show 5 ≤ sizeLine; decide), fun t2 n2 => ?_⟩
      rw [show upd H4 t2 (.tup [.int 0, .int 0, .int 0, (fun i : Int => V.int (-i)) 16, .int 16]) = upd H4 t2 (.tup cEnd.tup) from rfl]
      have s5 := Same.new (H := H4) (p := t2) (o := .tup cEnd.tup) n2
      have g2 : upd H4 t2 (.tup cEnd.tup) t2 = some (.tup cEnd.tup) := upd_same
      generalize upd H4 t2 (.tup cEnd.tup) = H5 at s5 g2 ⊢
      refine ⟨t2, cEnd, rfl, tup_of g2, end_ok, fun H6 v d s6 hl2 => ?_⟩
      obtain ⟨rfl, -⟩ := end_is hl2
      refine ⟨(by show 2 ≤ sizeLine; decide), fun l1 nl1 => ?_⟩
      have s7 := Same.new (H := H6) (p := l1) (o := .lst [.ref l, .int 2]) nl1
      have gl1 : upd H6 l1 (.lst [.ref l, .int 2]) l1 = some (.lst [.ref l, .int 2]) := upd_same
      generalize upd H6 l1 (.lst [.ref l, .int 2]) = H7 at s7 gl1 ⊢
      have hl7 := Same.tup (s5.trans (s6.trans s7)) hlc
      have k1 : okD dEnd = true := by decide +kernel
      have k2 : dEnd.depth ≤ 40 := by simp [dEnd, dcv, PyData.depth, PyData.depthAll]
      have k3 : wt dEnd ≤ 1000000 := by simp [dEnd, dcv, wt, wtAll]
      refine ⟨.ref l1, dEnd, rfl, .lst (lst_of gl1) (.cons (dp_cv hl7) (.cons (.int 2) .nil)), k1, k2, k3, ?_⟩
      refine ⟨_, rfl, (by show 5 ≤ sizeLine; decide), fun t3 n3 => ?_⟩
      rw [show upd H7 t3 (.tup [.int 0, .int 0, .int 1, (fun i : Int => V.int (-i)) 1, .int 0]) = upd H7 t3 (.tup (Cv.tup ⟨0, 0, 1, -1, 0⟩)) from rfl]
      have s8 := Same.new (H := H7) (p := t3) (o := .tup (Cv.tup ⟨0, 0, 1, -1, 0⟩)) n3
      have g3 : upd H7 t3 (.tup (Cv.tup ⟨0, 0, 1, -1, 0⟩)) t3 = some (.tup (Cv.tup ⟨0, 0, 1, -1, 0⟩)) := upd_same
      generalize upd H7 t3 (.tup (Cv.tup ⟨0, 0, 1, -1, 0⟩)) = H8 at s8 g3 ⊢
      refine ⟨(by show 2 ≤ sizeLine; decide), fun l2 nl2 => ?_⟩
      have s9 := Same.new (H := H8) (p := l2) (o := .lst [.ref t3, .int 2]) nl2
      have gl2 : upd H8 l2 (.lst [.ref t3, .int 2]) l2 = some (.lst [.ref t3, .int 2]) := upd_same
      generalize upd H8 l2 (.lst [.ref t3, .int 2]) = H9 at s9 gl2 ⊢
      refine ⟨.ref l2, dEnd, rfl, .lst (lst_of gl2) (.cons (dp_cv (tup_of (s9 _ _ g3))) (.cons (.int 2) .nil)), k1, k2, k3, rfl, ?_⟩
      rw [decide_eq_true rfl]
      exact q _
end
end K13
set_option Elab.async false
set_option linter.all false
set_option maxRecDepth 100000
set_option maxHeartbeats 4000000
namespace K13
open PySem PySem.Spec PyProof.Rows L2 Gd QM
section
variable {P : Program} {w : World} {K : PySem.W.Frag} {mg : Str → Option Value} {base : Heap}
/-! ### never entered -/
abbrev s_without_great_powers : Stmt := topS 29
theorem sc_without_great_powers : FnScope ["a", "b", "rest", "least", "p", "_"] ["a", "b", "rest", "least"] (defScope s_without_great_powers) := ⟨rfl, rfl, rfl, by decide +kernel, rfl, by decide +kernel, by decide +kernel⟩
theorem k_without_great_powers (D : Df K mg "without_great_powers" s_without_great_powers ["a", "b", "rest", "least"]) : Kl P w K mg base 6 "without_great_powers" (sp_without_great_powers K) :=
  Kl.by_body D sc_without_great_powers (fun _ _ _ _ h => h.elim) (fun _ _ _ _ _ _ _ _ _ _ h => h.elim)
end
end K13
set_option Elab.async false
set_option linter.all false
set_option maxRecDepth 100000
set_option maxHeartbeats 4000000
namespace K13
open PySem PySem.Spec PyProof.Rows L2 Gd
theorem all_mk {P : Program} {w : World} {K : PySem.W.Frag} {h : Heap} {mg : Str → Option Value} {fa : Addr} (X : K.In h) (G : h.Ns mainGlobals mg) (hfa : mg "law" = some (.ref fa))
    {f4 : Addr} {od4 an4 : Option Addr} {sl4 : Array (Option Value)} {oc4 kV4 dc4 pm4 cd4 ct4 : Value}
    {f6 : Addr} {od6 an6 : Option Addr} {sl6 : Array (Option Value)} {oc6 kV6 dc6 pm6 cd6 ct6 : Value}
    {f7 : Addr} {od7 an7 : Option Addr} {sl7 : Array (Option Value)} {oc7 kV7 dc7 pm7 cd7 ct7 : Value}
    {f8 : Addr} {od8 an8 : Option Addr} {sl8 : Array (Option Value)} {oc8 kV8 dc8 pm8 cd8 ct8 : Value}
    {f9 : Addr} {od9 an9 : Option Addr} {sl9 : Array (Option Value)} {oc9 kV9 dc9 pm9 cd9 ct9 : Value}
    {f26 : Addr} {od26 an26 : Option Addr} {sl26 : Array (Option Value)} {oc26 kV26 dc26 pm26 cd26 ct26 : Value}
    {f27 : Addr} {od27 an27 : Option Addr} {sl27 : Array (Option Value)} {oc27 kV27 dc27 pm27 cd27 ct27 : Value}
    {f29 : Addr} {od29 an29 : Option Addr} {sl29 : Array (Option Value)} {oc29 kV29 dc29 pm29 cd29 ct29 : Value}
    {f31 : Addr} {od31 an31 : Option Addr} {sl31 : Array (Option Value)} {oc31 kV31 dc31 pm31 cd31 ct31 : Value}
    {f32 : Addr} {od32 an32 : Option Addr} {sl32 : Array (Option Value)} {oc32 kV32 dc32 pm32 cd32 ct32 : Value}
    {f34 : Addr} {od34 an34 : Option Addr} {sl34 : Array (Option Value)} {oc34 kV34 dc34 pm34 cd34 ct34 : Value}
    {f35 : Addr} {od35 an35 : Option Addr} {sl35 : Array (Option Value)} {oc35 kV35 dc35 pm35 cd35 ct35 : Value}
    {f36 : Addr} {od36 an36 : Option Addr} {sl36 : Array (Option Value)} {oc36 kV36 dc36 pm36 cd36 ct36 : Value}
    {f37 : Addr} {od37 an37 : Option Addr} {sl37 : Array (Option Value)} {oc37 kV37 dc37 pm37 cd37 ct37 : Value}
    {f38 : Addr} {od38 an38 : Option Addr} {sl38 : Array (Option Value)} {oc38 kV38 dc38 pm38 cd38 ct38 : Value}
    {f39 : Addr} {od39 an39 : Option Addr} {sl39 : Array (Option Value)} {oc39 kV39 dc39 pm39 cd39 ct39 : Value}
    {f40 : Addr} {od40 an40 : Option Addr} {sl40 : Array (Option Value)} {oc40 kV40 dc40 pm40 cd40 ct40 : Value}
    {f42 : Addr} {od42 an42 : Option Addr} {sl42 : Array (Option Value)} {oc42 kV42 dc42 pm42 cd42 ct42 : Value}
    {f45 : Addr} {od45 an45 : Option Addr} {sl45 : Array (Option Value)} {oc45 kV45 dc45 pm45 cd45 ct45 : Value}
    {f46 : Addr} {od46 an46 : Option Addr} {sl46 : Array (Option Value)} {oc46 kV46 dc46 pm46 cd46 ct46 : Value}
    {f47 : Addr} {od47 an47 : Option Addr} {sl47 : Array (Option Value)} {oc47 kV47 dc47 pm47 cd47 ct47 : Value}
    {f48 : Addr} {od48 an48 : Option Addr} {sl48 : Array (Option Value)} {oc48 kV48 dc48 pm48 cd48 ct48 : Value}
    {f49 : Addr} {od49 an49 : Option Addr} {sl49 : Array (Option Value)} {oc49 kV49 dc49 pm49 cd49 ct49 : Value}
    {f50 : Addr} {od50 an50 : Option Addr} {sl50 : Array (Option Value)} {oc50 kV50 dc50 pm50 cd50 ct50 : Value}
    {f51 : Addr} {od51 an51 : Option Addr} {sl51 : Array (Option Value)} {oc51 kV51 dc51 pm51 cd51 ct51 : Value}
    {f52 : Addr} {od52 an52 : Option Addr} {sl52 : Array (Option Value)} {oc52 kV52 dc52 pm52 cd52 ct52 : Value}
    {f54 : Addr} {od54 an54 : Option Addr} {sl54 : Array (Option Value)} {oc54 kV54 dc54 pm54 cd54 ct54 : Value}
    {f55 : Addr} {od55 an55 : Option Addr} {sl55 : Array (Option Value)} {oc55 kV55 dc55 pm55 cd55 ct55 : Value}
    {f56 : Addr} {od56 an56 : Option Addr} {sl56 : Array (Option Value)} {oc56 kV56 dc56 pm56 cd56 ct56 : Value}
    {f57 : Addr} {od57 an57 : Option Addr} {sl57 : Array (Option Value)} {oc57 kV57 dc57 pm57 cd57 ct57 : Value}
    {f58 : Addr} {od58 an58 : Option Addr} {sl58 : Array (Option Value)} {oc58 kV58 dc58 pm58 cd58 ct58 : Value}
    {f59 : Addr} {od59 an59 : Option Addr} {sl59 : Array (Option Value)} {oc59 kV59 dc59 pm59 cd59 ct59 : Value}
    {f60 : Addr} {od60 an60 : Option Addr} {sl60 : Array (Option Value)} {oc60 kV60 dc60 pm60 cd60 ct60 : Value}
    {f61 : Addr} {od61 an61 : Option Addr} {sl61 : Array (Option Value)} {oc61 kV61 dc61 pm61 cd61 ct61 : Value}
    {f62 : Addr} {od62 an62 : Option Addr} {sl62 : Array (Option Value)} {oc62 kV62 dc62 pm62 cd62 ct62 : Value}
    {f63 : Addr} {od63 an63 : Option Addr} {sl63 : Array (Option Value)} {oc63 kV63 dc63 pm63 cd63 ct63 : Value}
    {f64 : Addr} {od64 an64 : Option Addr} {sl64 : Array (Option Value)} {oc64 kV64 dc64 pm64 cd64 ct64 : Value}
    {f65 : Addr} {od65 an65 : Option Addr} {sl65 : Array (Option Value)} {oc65 kV65 dc65 pm65 cd65 ct65 : Value}
    {f66 : Addr} {od66 an66 : Option Addr} {sl66 : Array (Option Value)} {oc66 kV66 dc66 pm66 cd66 ct66 : Value}
    {f67 : Addr} {od67 an67 : Option Addr} {sl67 : Array (Option Value)} {oc67 kV67 dc67 pm67 cd67 ct67 : Value}
    {f68 : Addr} {od68 an68 : Option Addr} {sl68 : Array (Option Value)} {oc68 kV68 dc68 pm68 cd68 ct68 : Value}
    {f69 : Addr} {od69 an69 : Option Addr} {sl69 : Array (Option Value)} {oc69 kV69 dc69 pm69 cd69 ct69 : Value}
    {f70 : Addr} {od70 an70 : Option Addr} {sl70 : Array (Option Value)} {oc70 kV70 dc70 pm70 cd70 ct70 : Value}
    {f71 : Addr} {od71 an71 : Option Addr} {sl71 : Array (Option Value)} {oc71 kV71 dc71 pm71 cd71 ct71 : Value}
    {aT_REDUCED_B2 : Addr} {odT_REDUCED_B2 : Option Addr} {nT_REDUCED_B2 : Nat} {slT_REDUCED_B2 : Array (Option Value)} {uT_REDUCED_B2_0 uT_REDUCED_B2_1 uT_REDUCED_B2_2 uT_REDUCED_B2_3 uT_REDUCED_B2_4 uT_REDUCED_B2_5 : Tok}
    (a4 : PySem.W.nsIn K mainGlobals "valuation" = some (some (.ref f4))) (l4 : K.lookup f4 = some ⟨oc4, od4, .func (PySem.W.fnOf "valuation" "valuation" (defArgs s_valuation) (defBody s_valuation) (defScope s_valuation) .none kV4 dc4 pm4 an4 cd4 ct4), sl4⟩) (c4 : PySem.W.codeIn K cd4 "valuation" = true) (k4 : PySem.W.keepIn K (.ref f4) = true)
    (a6 : PySem.W.nsIn K mainGlobals "power" = some (some (.ref f6))) (l6 : K.lookup f6 = some ⟨oc6, od6, .func (PySem.W.fnOf "power" "power" (defArgs s_power) (defBody s_power) (defScope s_power) .none kV6 dc6 pm6 an6 cd6 ct6), sl6⟩) (c6 : PySem.W.codeIn K cd6 "power" = true) (k6 : PySem.W.keepIn K (.ref f6) = true)
    (a7 : PySem.W.nsIn K mainGlobals "lowest" = some (some (.ref f7))) (l7 : K.lookup f7 = some ⟨oc7, od7, .func (PySem.W.fnOf "lowest" "lowest" (defArgs s_lowest) (defBody s_lowest) (defScope s_lowest) .none kV7 dc7 pm7 an7 cd7 ct7), sl7⟩) (c7 : PySem.W.codeIn K cd7 "lowest" = true) (k7 : PySem.W.keepIn K (.ref f7) = true)
    (a8 : PySem.W.nsIn K mainGlobals "root_of" = some (some (.ref f8))) (l8 : K.lookup f8 = some ⟨oc8, od8, .func (PySem.W.fnOf "root_of" "root_of" (defArgs s_root_of) (defBody s_root_of) (defScope s_root_of) .none kV8 dc8 pm8 an8 cd8 ct8), sl8⟩) (c8 : PySem.W.codeIn K cd8 "root_of" = true) (k8 : PySem.W.keepIn K (.ref f8) = true)
    (a9 : PySem.W.nsIn K mainGlobals "exact_root" = some (some (.ref f9))) (l9 : K.lookup f9 = some ⟨oc9, od9, .func (PySem.W.fnOf "exact_root" "exact_root" (defArgs s_exact_root) (defBody s_exact_root) (defScope s_exact_root) .none kV9 dc9 pm9 an9 cd9 ct9), sl9⟩) (c9 : PySem.W.codeIn K cd9 "exact_root" = true) (k9 : PySem.W.keepIn K (.ref f9) = true)
    (a26 : PySem.W.nsIn K mainGlobals "divided_by" = some (some (.ref f26))) (l26 : K.lookup f26 = some ⟨oc26, od26, .func (PySem.W.fnOf "divided_by" "divided_by" (defArgs s_divided_by) (defBody s_divided_by) (defScope s_divided_by) .none kV26 dc26 pm26 an26 cd26 ct26), sl26⟩) (c26 : PySem.W.codeIn K cd26 "divided_by" = true) (k26 : PySem.W.keepIn K (.ref f26) = true)
    (a27 : PySem.W.nsIn K mainGlobals "without_powers" = some (some (.ref f27))) (l27 : K.lookup f27 = some ⟨oc27, od27, .func (PySem.W.fnOf "without_powers" "without_powers" (defArgs s_without_powers) (defBody s_without_powers) (defScope s_without_powers) .none kV27 dc27 pm27 an27 cd27 ct27), sl27⟩) (c27 : PySem.W.codeIn K cd27 "without_powers" = true) (k27 : PySem.W.keepIn K (.ref f27) = true)
    (a29 : PySem.W.nsIn K mainGlobals "without_great_powers" = some (some (.ref f29))) (l29 : K.lookup f29 = some ⟨oc29, od29, .func (PySem.W.fnOf "without_great_powers" "without_great_powers" (defArgs s_without_great_powers) (defBody s_without_great_powers) (defScope s_without_great_powers) .none kV29 dc29 pm29 an29 cd29 ct29), sl29⟩) (c29 : PySem.W.codeIn K cd29 "without_great_powers" = true) (k29 : PySem.W.keepIn K (.ref f29) = true)
    (a31 : PySem.W.nsIn K mainGlobals "five" = some (some (.ref f31))) (l31 : K.lookup f31 = some ⟨oc31, od31, .func (PySem.W.fnOf "five" "five" (defArgs s_five) (defBody s_five) (defScope s_five) .none kV31 dc31 pm31 an31 cd31 ct31), sl31⟩) (c31 : PySem.W.codeIn K cd31 "five" = true) (k31 : PySem.W.keepIn K (.ref f31) = true)
    (a32 : PySem.W.nsIn K mainGlobals "numbers_of" = some (some (.ref f32))) (l32 : K.lookup f32 = some ⟨oc32, od32, .func (PySem.W.fnOf "numbers_of" "numbers_of" (defArgs s_numbers_of) (defBody s_numbers_of) (defScope s_numbers_of) .none kV32 dc32 pm32 an32 cd32 ct32), sl32⟩) (c32 : PySem.W.codeIn K cd32 "numbers_of" = true) (k32 : PySem.W.keepIn K (.ref f32) = true)
    (a34 : PySem.W.nsIn K mainGlobals "plus" = some (some (.ref f34))) (l34 : K.lookup f34 = some ⟨oc34, od34, .func (PySem.W.fnOf "plus" "plus" (defArgs s_plus) (defBody s_plus) (defScope s_plus) .none kV34 dc34 pm34 an34 cd34 ct34), sl34⟩) (c34 : PySem.W.codeIn K cd34 "plus" = true) (k34 : PySem.W.keepIn K (.ref f34) = true)
    (a35 : PySem.W.nsIn K mainGlobals "less" = some (some (.ref f35))) (l35 : K.lookup f35 = some ⟨oc35, od35, .func (PySem.W.fnOf "less" "less" (defArgs s_less) (defBody s_less) (defScope s_less) .none kV35 dc35 pm35 an35 cd35 ct35), sl35⟩) (c35 : PySem.W.codeIn K cd35 "less" = true) (k35 : PySem.W.keepIn K (.ref f35) = true)
    (a36 : PySem.W.nsIn K mainGlobals "times" = some (some (.ref f36))) (l36 : K.lookup f36 = some ⟨oc36, od36, .func (PySem.W.fnOf "times" "times" (defArgs s_times) (defBody s_times) (defScope s_times) .none kV36 dc36 pm36 an36 cd36 ct36), sl36⟩) (c36 : PySem.W.codeIn K cd36 "times" = true) (k36 : PySem.W.keepIn K (.ref f36) = true)
    (a37 : PySem.W.nsIn K mainGlobals "over" = some (some (.ref f37))) (l37 : K.lookup f37 = some ⟨oc37, od37, .func (PySem.W.fnOf "over" "over" (defArgs s_over) (defBody s_over) (defScope s_over) .none kV37 dc37 pm37 an37 cd37 ct37), sl37⟩) (c37 : PySem.W.codeIn K cd37 "over" = true) (k37 : PySem.W.keepIn K (.ref f37) = true)
    (a38 : PySem.W.nsIn K mainGlobals "whole_fraction" = some (some (.ref f38))) (l38 : K.lookup f38 = some ⟨oc38, od38, .func (PySem.W.fnOf "whole_fraction" "whole_fraction" (defArgs s_whole_fraction) (defBody s_whole_fraction) (defScope s_whole_fraction) .none kV38 dc38 pm38 an38 cd38 ct38), sl38⟩) (c38 : PySem.W.codeIn K cd38 "whole_fraction" = true) (k38 : PySem.W.keepIn K (.ref f38) = true)
    (a39 : PySem.W.nsIn K mainGlobals "total" = some (some (.ref f39))) (l39 : K.lookup f39 = some ⟨oc39, od39, .func (PySem.W.fnOf "total" "total" (defArgs s_total) (defBody s_total) (defScope s_total) .none kV39 dc39 pm39 an39 cd39 ct39), sl39⟩) (c39 : PySem.W.codeIn K cd39 "total" = true) (k39 : PySem.W.keepIn K (.ref f39) = true)
    (a40 : PySem.W.nsIn K mainGlobals "product" = some (some (.ref f40))) (l40 : K.lookup f40 = some ⟨oc40, od40, .func (PySem.W.fnOf "product" "product" (defArgs s_product) (defBody s_product) (defScope s_product) .none kV40 dc40 pm40 an40 cd40 ct40), sl40⟩) (c40 : PySem.W.codeIn K cd40 "product" = true) (k40 : PySem.W.keepIn K (.ref f40) = true)
    (a42 : PySem.W.nsIn K mainGlobals "change_with" = some (some (.ref f42))) (l42 : K.lookup f42 = some ⟨oc42, od42, .func (PySem.W.fnOf "change_with" "change_with" (defArgs s_change_with) (defBody s_change_with) (defScope s_change_with) .none kV42 dc42 pm42 an42 cd42 ct42), sl42⟩) (c42 : PySem.W.codeIn K cd42 "change_with" = true) (k42 : PySem.W.keepIn K (.ref f42) = true)
    (a45 : PySem.W.nsIn K mainGlobals "over_whole" = some (some (.ref f45))) (l45 : K.lookup f45 = some ⟨oc45, od45, .func (PySem.W.fnOf "over_whole" "over_whole" (defArgs s_over_whole) (defBody s_over_whole) (defScope s_over_whole) .none kV45 dc45 pm45 an45 cd45 ct45), sl45⟩) (c45 : PySem.W.codeIn K cd45 "over_whole" = true) (k45 : PySem.W.keepIn K (.ref f45) = true)
    (a46 : PySem.W.nsIn K mainGlobals "told_numbers" = some (some (.ref f46))) (l46 : K.lookup f46 = some ⟨oc46, od46, .func (PySem.W.fnOf "told_numbers" "told_numbers" (defArgs s_told_numbers) (defBody s_told_numbers) (defScope s_told_numbers) .none kV46 dc46 pm46 an46 cd46 ct46), sl46⟩) (c46 : PySem.W.codeIn K cd46 "told_numbers" = true) (k46 : PySem.W.keepIn K (.ref f46) = true)
    (a47 : PySem.W.nsIn K mainGlobals "curve_of" = some (some (.ref f47))) (l47 : K.lookup f47 = some ⟨oc47, od47, .func (PySem.W.fnOf "curve_of" "curve_of" (defArgs s_curve_of) (defBody s_curve_of) (defScope s_curve_of) .none kV47 dc47 pm47 an47 cd47 ct47), sl47⟩) (c47 : PySem.W.codeIn K cd47 "curve_of" = true) (k47 : PySem.W.keepIn K (.ref f47) = true)
    (a48 : PySem.W.nsIn K mainGlobals "greatest_scale" = some (some (.ref f48))) (l48 : K.lookup f48 = some ⟨oc48, od48, .func (PySem.W.fnOf "greatest_scale" "greatest_scale" (defArgs s_greatest_scale) (defBody s_greatest_scale) (defScope s_greatest_scale) .none kV48 dc48 pm48 an48 cd48 ct48), sl48⟩) (c48 : PySem.W.codeIn K cd48 "greatest_scale" = true) (k48 : PySem.W.keepIn K (.ref f48) = true)
    (a49 : PySem.W.nsIn K mainGlobals "least_and_scale" = some (some (.ref f49))) (l49 : K.lookup f49 = some ⟨oc49, od49, .func (PySem.W.fnOf "least_and_scale" "least_and_scale" (defArgs s_least_and_scale) (defBody s_least_and_scale) (defScope s_least_and_scale) .none kV49 dc49 pm49 an49 cd49 ct49), sl49⟩) (c49 : PySem.W.codeIn K cd49 "least_and_scale" = true) (k49 : PySem.W.keepIn K (.ref f49) = true)
    (a50 : PySem.W.nsIn K mainGlobals "least_model" = some (some (.ref f50))) (l50 : K.lookup f50 = some ⟨oc50, od50, .func (PySem.W.fnOf "least_model" "least_model" (defArgs s_least_model) (defBody s_least_model) (defScope s_least_model) .none kV50 dc50 pm50 an50 cd50 ct50), sl50⟩) (c50 : PySem.W.codeIn K cd50 "least_model" = true) (k50 : PySem.W.keepIn K (.ref f50) = true)
    (a51 : PySem.W.nsIn K mainGlobals "is_least" = some (some (.ref f51))) (l51 : K.lookup f51 = some ⟨oc51, od51, .func (PySem.W.fnOf "is_least" "is_least" (defArgs s_is_least) (defBody s_is_least) (defScope s_is_least) .none kV51 dc51 pm51 an51 cd51 ct51), sl51⟩) (c51 : PySem.W.codeIn K cd51 "is_least" = true) (k51 : PySem.W.keepIn K (.ref f51) = true)
    (a52 : PySem.W.nsIn K mainGlobals "scale_of" = some (some (.ref f52))) (l52 : K.lookup f52 = some ⟨oc52, od52, .func (PySem.W.fnOf "scale_of" "scale_of" (defArgs s_scale_of) (defBody s_scale_of) (defScope s_scale_of) .none kV52 dc52 pm52 an52 cd52 ct52), sl52⟩) (c52 : PySem.W.codeIn K cd52 "scale_of" = true) (k52 : PySem.W.keepIn K (.ref f52) = true)
    (a54 : PySem.W.nsIn K mainGlobals "_law_begun" = some (some (.ref f54))) (l54 : K.lookup f54 = some ⟨oc54, od54, .func (PySem.W.fnOf "_law_begun" "_law_begun" (defArgs s__law_begun) (defBody s__law_begun) (defScope s__law_begun) .none kV54 dc54 pm54 an54 cd54 ct54), sl54⟩) (c54 : PySem.W.codeIn K cd54 "_law_begun" = true) (k54 : PySem.W.keepIn K (.ref f54) = true)
    (a55 : PySem.W.nsIn K mainGlobals "_law_draw" = some (some (.ref f55))) (l55 : K.lookup f55 = some ⟨oc55, od55, .func (PySem.W.fnOf "_law_draw" "_law_draw" (defArgs s__law_draw) (defBody s__law_draw) (defScope s__law_draw) .none kV55 dc55 pm55 an55 cd55 ct55), sl55⟩) (c55 : PySem.W.codeIn K cd55 "_law_draw" = true) (k55 : PySem.W.keepIn K (.ref f55) = true)
    (a56 : PySem.W.nsIn K mainGlobals "_law_of" = some (some (.ref f56))) (l56 : K.lookup f56 = some ⟨oc56, od56, .func (PySem.W.fnOf "_law_of" "_law_of" (defArgs s__law_of) (defBody s__law_of) (defScope s__law_of) .none kV56 dc56 pm56 an56 cd56 ct56), sl56⟩) (c56 : PySem.W.codeIn K cd56 "_law_of" = true) (k56 : PySem.W.keepIn K (.ref f56) = true)
    (a57 : PySem.W.nsIn K mainGlobals "_law_between" = some (some (.ref f57))) (l57 : K.lookup f57 = some ⟨oc57, od57, .func (PySem.W.fnOf "_law_between" "_law_between" (defArgs s__law_between) (defBody s__law_between) (defScope s__law_between) .none kV57 dc57 pm57 an57 cd57 ct57), sl57⟩) (c57 : PySem.W.codeIn K cd57 "_law_between" = true) (k57 : PySem.W.keepIn K (.ref f57) = true)
    (a58 : PySem.W.nsIn K mainGlobals "_law_common" = some (some (.ref f58))) (l58 : K.lookup f58 = some ⟨oc58, od58, .func (PySem.W.fnOf "_law_common" "_law_common" (defArgs s__law_common) (defBody s__law_common) (defScope s__law_common) .none kV58 dc58 pm58 an58 cd58 ct58), sl58⟩) (c58 : PySem.W.codeIn K cd58 "_law_common" = true) (k58 : PySem.W.keepIn K (.ref f58) = true)
    (a59 : PySem.W.nsIn K mainGlobals "_law_cut" = some (some (.ref f59))) (l59 : K.lookup f59 = some ⟨oc59, od59, .func (PySem.W.fnOf "_law_cut" "_law_cut" (defArgs s__law_cut) (defBody s__law_cut) (defScope s__law_cut) .none kV59 dc59 pm59 an59 cd59 ct59), sl59⟩) (c59 : PySem.W.codeIn K cd59 "_law_cut" = true) (k59 : PySem.W.keepIn K (.ref f59) = true)
    (a60 : PySem.W.nsIn K mainGlobals "_law_plus" = some (some (.ref f60))) (l60 : K.lookup f60 = some ⟨oc60, od60, .func (PySem.W.fnOf "_law_plus" "_law_plus" (defArgs s__law_plus) (defBody s__law_plus) (defScope s__law_plus) .none kV60 dc60 pm60 an60 cd60 ct60), sl60⟩) (c60 : PySem.W.codeIn K cd60 "_law_plus" = true) (k60 : PySem.W.keepIn K (.ref f60) = true)
    (a61 : PySem.W.nsIn K mainGlobals "_law_less" = some (some (.ref f61))) (l61 : K.lookup f61 = some ⟨oc61, od61, .func (PySem.W.fnOf "_law_less" "_law_less" (defArgs s__law_less) (defBody s__law_less) (defScope s__law_less) .none kV61 dc61 pm61 an61 cd61 ct61), sl61⟩) (c61 : PySem.W.codeIn K cd61 "_law_less" = true) (k61 : PySem.W.keepIn K (.ref f61) = true)
    (a62 : PySem.W.nsIn K mainGlobals "_law_by" = some (some (.ref f62))) (l62 : K.lookup f62 = some ⟨oc62, od62, .func (PySem.W.fnOf "_law_by" "_law_by" (defArgs s__law_by) (defBody s__law_by) (defScope s__law_by) .none kV62 dc62 pm62 an62 cd62 ct62), sl62⟩) (c62 : PySem.W.codeIn K cd62 "_law_by" = true) (k62 : PySem.W.keepIn K (.ref f62) = true)
    (a63 : PySem.W.nsIn K mainGlobals "_law_over" = some (some (.ref f63))) (l63 : K.lookup f63 = some ⟨oc63, od63, .func (PySem.W.fnOf "_law_over" "_law_over" (defArgs s__law_over) (defBody s__law_over) (defScope s__law_over) .none kV63 dc63 pm63 an63 cd63 ct63), sl63⟩) (c63 : PySem.W.codeIn K cd63 "_law_over" = true) (k63 : PySem.W.keepIn K (.ref f63) = true)
    (a64 : PySem.W.nsIn K mainGlobals "_law_numbers" = some (some (.ref f64))) (l64 : K.lookup f64 = some ⟨oc64, od64, .func (PySem.W.fnOf "_law_numbers" "_law_numbers" (defArgs s__law_numbers) (defBody s__law_numbers) (defScope s__law_numbers) .none kV64 dc64 pm64 an64 cd64 ct64), sl64⟩) (c64 : PySem.W.codeIn K cd64 "_law_numbers" = true) (k64 : PySem.W.keepIn K (.ref f64) = true)
    (a65 : PySem.W.nsIn K mainGlobals "_law_curve" = some (some (.ref f65))) (l65 : K.lookup f65 = some ⟨oc65, od65, .func (PySem.W.fnOf "_law_curve" "_law_curve" (defArgs s__law_curve) (defBody s__law_curve) (defScope s__law_curve) .none kV65 dc65 pm65 an65 cd65 ct65), sl65⟩) (c65 : PySem.W.codeIn K cd65 "_law_curve" = true) (k65 : PySem.W.keepIn K (.ref f65) = true)
    (a66 : PySem.W.nsIn K mainGlobals "_law_led" = some (some (.ref f66))) (l66 : K.lookup f66 = some ⟨oc66, od66, .func (PySem.W.fnOf "_law_led" "_law_led" (defArgs s__law_led) (defBody s__law_led) (defScope s__law_led) .none kV66 dc66 pm66 an66 cd66 ct66), sl66⟩) (c66 : PySem.W.codeIn K cd66 "_law_led" = true) (k66 : PySem.W.keepIn K (.ref f66) = true)
    (a67 : PySem.W.nsIn K mainGlobals "_law_pair" = some (some (.ref f67))) (l67 : K.lookup f67 = some ⟨oc67, od67, .func (PySem.W.fnOf "_law_pair" "_law_pair" (defArgs s__law_pair) (defBody s__law_pair) (defScope s__law_pair) .none kV67 dc67 pm67 an67 cd67 ct67), sl67⟩) (c67 : PySem.W.codeIn K cd67 "_law_pair" = true) (k67 : PySem.W.keepIn K (.ref f67) = true)
    (a68 : PySem.W.nsIn K mainGlobals "_law_moved" = some (some (.ref f68))) (l68 : K.lookup f68 = some ⟨oc68, od68, .func (PySem.W.fnOf "_law_moved" "_law_moved" (defArgs s__law_moved) (defBody s__law_moved) (defScope s__law_moved) .none kV68 dc68 pm68 an68 cd68 ct68), sl68⟩) (c68 : PySem.W.codeIn K cd68 "_law_moved" = true) (k68 : PySem.W.keepIn K (.ref f68) = true)
    (a69 : PySem.W.nsIn K mainGlobals "_law_lets" = some (some (.ref f69))) (l69 : K.lookup f69 = some ⟨oc69, od69, .func (PySem.W.fnOf "_law_lets" "_law_lets" (defArgs s__law_lets) (defBody s__law_lets) (defScope s__law_lets) .none kV69 dc69 pm69 an69 cd69 ct69), sl69⟩) (c69 : PySem.W.codeIn K cd69 "_law_lets" = true) (k69 : PySem.W.keepIn K (.ref f69) = true)
    (a70 : PySem.W.nsIn K mainGlobals "_law_least_right" = some (some (.ref f70))) (l70 : K.lookup f70 = some ⟨oc70, od70, .func (PySem.W.fnOf "_law_least_right" "_law_least_right" (defArgs s__law_least_right) (defBody s__law_least_right) (defScope s__law_least_right) .none kV70 dc70 pm70 an70 cd70 ct70), sl70⟩) (c70 : PySem.W.codeIn K cd70 "_law_least_right" = true) (k70 : PySem.W.keepIn K (.ref f70) = true)
    (a71 : PySem.W.nsIn K mainGlobals "law" = some (some (.ref f71))) (l71 : K.lookup f71 = some ⟨oc71, od71, .func (PySem.W.fnOf "law" "law" (defArgs s_law) (defBody s_law) (defScope s_law) .none kV71 dc71 pm71 an71 cd71 ct71), sl71⟩) (c71 : PySem.W.codeIn K cd71 "law" = true) (k71 : PySem.W.keepIn K (.ref f71) = true)
    (z_gcd : PySem.W.nsIn K mainGlobals "gcd" = some (some (.builtin "math.gcd")))
    (z_isqrt : PySem.W.nsIn K mainGlobals "isqrt" = some (some (.builtin "math.isqrt")))
    (z_int : PySem.W.nsIn K mainGlobals "int" = some none)
    (z_len : PySem.W.nsIn K mainGlobals "len" = some none)
    (z_tuple : PySem.W.nsIn K mainGlobals "tuple" = some none)
    (z_sorted : PySem.W.nsIn K mainGlobals "sorted" = some none)
    (z_min : PySem.W.nsIn K mainGlobals "min" = some none)
    (z_abs : PySem.W.nsIn K mainGlobals "abs" = some none)
    (z_range : PySem.W.nsIn K mainGlobals "range" = some none)
    (z_enumerate : PySem.W.nsIn K mainGlobals "enumerate" = some none)
    (z_repr : PySem.W.nsIn K mainGlobals "repr" = some none)
    {tk_TRIED_shortening : Tok} (z_TRIED_shortening : PySem.W.nsIn K mainGlobals "TRIED_shortening" = some (some (.int 10000 tk_TRIED_shortening)))
    (z_REDUCED_B2 : PySem.W.nsIn K mainGlobals "REDUCED_B2" = some (some (.ref aT_REDUCED_B2))) (w_REDUCED_B2 : K.lookup aT_REDUCED_B2 = some ⟨.type "tuple", odT_REDUCED_B2, .seq #[.int (0) uT_REDUCED_B2_0, .int (1) uT_REDUCED_B2_1, .int (4) uT_REDUCED_B2_2, .int (5) uT_REDUCED_B2_3, .int (-4) uT_REDUCED_B2_4, .int (-3) uT_REDUCED_B2_5] nT_REDUCED_B2, slT_REDUCED_B2⟩)
    : ∃ fd : FuncData, (∀ (s : Shared) (v : Value), BindsTo s fd ⟨[v], []⟩ [("script", v)]) ∧ ∀ base : Heap, K.In base → base.Ns mainGlobals mg → FnG P w K mg base 12 fa fd ["script"] (sp_law K) := by
  have T : Tx K mg := ⟨PySem.W.mg_of X G z_gcd, PySem.W.mg_of X G z_isqrt, PySem.W.mg_none_of X G z_int, PySem.W.mg_none_of X G z_len, PySem.W.mg_none_of X G z_tuple, PySem.W.mg_none_of X G z_sorted, PySem.W.mg_none_of X G z_min, PySem.W.mg_none_of X G z_abs, PySem.W.mg_none_of X G z_range, PySem.W.mg_none_of X G z_enumerate, PySem.W.mg_none_of X G z_repr, ⟨_, PySem.W.mg_of X G z_TRIED_shortening, ⟨_, rfl⟩⟩, ⟨_, ⟨_, PySem.W.mg_of X G z_REDUCED_B2, rfl⟩, fun _ => Or.inr ⟨_, _, _, w_REDUCED_B2, rfl, rfl, (by show 6 ≤ sizeLine; decide), (.cons ⟨_, rfl⟩ (.cons ⟨_, rfl⟩ (.cons ⟨_, rfl⟩ (.cons ⟨_, rfl⟩ (.cons ⟨_, rfl⟩ (.cons ⟨_, rfl⟩ .nil))))))⟩⟩⟩
  have d4 : Df K mg "valuation" s_valuation ["n", "p"] := df_mk X G a4 l4 c4 k4 (fun _ _ _ _ _ _ us hl => match us, hl with | [_, _], _ => rfl)
  have d6 : Df K mg "power" s_power ["a", "e"] := df_mk X G a6 l6 c6 k6 (fun _ _ _ _ _ _ us hl => match us, hl with | [_, _], _ => rfl)
  have d7 : Df K mg "lowest" s_lowest ["n", "d"] := df_mk X G a7 l7 c7 k7 (fun _ _ _ _ _ _ us hl => match us, hl with | [_, _], _ => rfl)
  have d8 : Df K mg "root_of" s_root_of ["n", "k"] := df_mk X G a8 l8 c8 k8 (fun _ _ _ _ _ _ us hl => match us, hl with | [_, _], _ => rfl)
  have d9 : Df K mg "exact_root" s_exact_root ["n", "k"] := df_mk X G a9 l9 c9 k9 (fun _ _ _ _ _ _ us hl => match us, hl with | [_, _], _ => rfl)
  have d26 : Df K mg "divided_by" s_divided_by ["a", "b", "u"] := df_mk X G a26 l26 c26 k26 (fun _ _ _ _ _ _ us hl => match us, hl with | [_, _, _], _ => rfl)
  have d27 : Df K mg "without_powers" s_without_powers ["a", "b"] := df_mk X G a27 l27 c27 k27 (fun _ _ _ _ _ _ us hl => match us, hl with | [_, _], _ => rfl)
  have d29 : Df K mg "without_great_powers" s_without_great_powers ["a", "b", "rest", "least"] := df_mk X G a29 l29 c29 k29 (fun _ _ _ _ _ _ us hl => match us, hl with | [_, _, _, _], _ => rfl)
  have d31 : Df K mg "five" s_five ["curve"] := df_mk X G a31 l31 c31 k31 (fun _ _ _ _ _ _ us hl => match us, hl with | [_], _ => rfl)
  have d32 : Df K mg "numbers_of" s_numbers_of ["curve"] := df_mk X G a32 l32 c32 k32 (fun _ _ _ _ _ _ us hl => match us, hl with | [_], _ => rfl)
  have d34 : Df K mg "plus" s_plus ["f", "g"] := df_mk X G a34 l34 c34 k34 (fun _ _ _ _ _ _ us hl => match us, hl with | [_, _], _ => rfl)
  have d35 : Df K mg "less" s_less ["f", "g"] := df_mk X G a35 l35 c35 k35 (fun _ _ _ _ _ _ us hl => match us, hl with | [_, _], _ => rfl)
  have d36 : Df K mg "times" s_times ["f", "g"] := df_mk X G a36 l36 c36 k36 (fun _ _ _ _ _ _ us hl => match us, hl with | [_, _], _ => rfl)
  have d37 : Df K mg "over" s_over ["f", "g"] := df_mk X G a37 l37 c37 k37 (fun _ _ _ _ _ _ us hl => match us, hl with | [_, _], _ => rfl)
  have d38 : Df K mg "whole_fraction" s_whole_fraction ["n"] := df_mk X G a38 l38 c38 k38 (fun _ _ _ _ _ _ us hl => match us, hl with | [_], _ => rfl)
  have d39 : Df K mg "total" s_total ["fractions"] := df_mk X G a39 l39 c39 k39 (fun _ _ _ _ _ _ us hl => match us, hl with | [_], _ => rfl)
  have d40 : Df K mg "product" s_product ["fractions"] := df_mk X G a40 l40 c40 k40 (fun _ _ _ _ _ _ us hl => match us, hl with | [_], _ => rfl)
  have d42 : Df K mg "change_with" s_change_with ["curve", "other", "u"] := df_mk X G a42 l42 c42 k42 (fun _ _ _ _ _ _ us hl => match us, hl with | [_, _, _], _ => rfl)
  have d45 : Df K mg "over_whole" s_over_whole ["n", "d"] := df_mk X G a45 l45 c45 k45 (fun _ _ _ _ _ _ us hl => match us, hl with | [_, _], _ => rfl)
  have d46 : Df K mg "told_numbers" s_told_numbers ["c4", "c6"] := df_mk X G a46 l46 c46 k46 (fun _ _ _ _ _ _ us hl => match us, hl with | [_, _], _ => rfl)
  have d47 : Df K mg "curve_of" s_curve_of ["c4", "c6"] := df_mk X G a47 l47 c47 k47 (fun _ _ _ _ _ _ us hl => match us, hl with | [_, _], _ => rfl)
  have d48 : Df K mg "greatest_scale" s_greatest_scale ["c4", "c6"] := df_mk X G a48 l48 c48 k48 (fun _ _ _ _ _ _ us hl => match us, hl with | [_, _], _ => rfl)
  have d49 : Df K mg "least_and_scale" s_least_and_scale ["curve"] := df_mk X G a49 l49 c49 k49 (fun _ _ _ _ _ _ us hl => match us, hl with | [_], _ => rfl)
  have d50 : Df K mg "least_model" s_least_model ["curve"] := df_mk X G a50 l50 c50 k50 (fun _ _ _ _ _ _ us hl => match us, hl with | [_], _ => rfl)
  have d51 : Df K mg "is_least" s_is_least ["curve"] := df_mk X G a51 l51 c51 k51 (fun _ _ _ _ _ _ us hl => match us, hl with | [_], _ => rfl)
  have d52 : Df K mg "scale_of" s_scale_of ["curve"] := df_mk X G a52 l52 c52 k52 (fun _ _ _ _ _ _ us hl => match us, hl with | [_], _ => rfl)
  have d54 : Df K mg "_law_begun" s__law_begun ["script", "k"] := df_mk X G a54 l54 c54 k54 (fun _ _ _ _ _ _ us hl => match us, hl with | [_, _], _ => rfl)
  have d55 : Df K mg "_law_draw" s__law_draw ["m", "below"] := df_mk X G a55 l55 c55 k55 (fun _ _ _ _ _ _ us hl => match us, hl with | [_, _], _ => rfl)
  have d56 : Df K mg "_law_of" s__law_of ["m", "some"] := df_mk X G a56 l56 c56 k56 (fun _ _ _ _ _ _ us hl => match us, hl with | [_, _], _ => rfl)
  have d57 : Df K mg "_law_between" s__law_between ["m", "size"] := df_mk X G a57 l57 c57 k57 (fun _ _ _ _ _ _ us hl => match us, hl with | [_, _], _ => rfl)
  have d58 : Df K mg "_law_common" s__law_common ["a", "b"] := df_mk X G a58 l58 c58 k58 (fun _ _ _ _ _ _ us hl => match us, hl with | [_, _], _ => rfl)
  have d59 : Df K mg "_law_cut" s__law_cut ["n", "d"] := df_mk X G a59 l59 c59 k59 (fun _ _ _ _ _ _ us hl => match us, hl with | [_, _], _ => rfl)
  have d60 : Df K mg "_law_plus" s__law_plus ["f", "g"] := df_mk X G a60 l60 c60 k60 (fun _ _ _ _ _ _ us hl => match us, hl with | [_, _], _ => rfl)
  have d61 : Df K mg "_law_less" s__law_less ["f", "g"] := df_mk X G a61 l61 c61 k61 (fun _ _ _ _ _ _ us hl => match us, hl with | [_, _], _ => rfl)
  have d62 : Df K mg "_law_by" s__law_by ["f", "g"] := df_mk X G a62 l62 c62 k62 (fun _ _ _ _ _ _ us hl => match us, hl with | [_, _], _ => rfl)
  have d63 : Df K mg "_law_over" s__law_over ["f", "g"] := df_mk X G a63 l63 c63 k63 (fun _ _ _ _ _ _ us hl => match us, hl with | [_, _], _ => rfl)
  have d64 : Df K mg "_law_numbers" s__law_numbers ["five_v"] := df_mk X G a64 l64 c64 k64 (fun _ _ _ _ _ _ us hl => match us, hl with | [_], _ => rfl)
  have d65 : Df K mg "_law_curve" s__law_curve ["m", "size"] := df_mk X G a65 l65 c65 k65 (fun _ _ _ _ _ _ us hl => match us, hl with | [_, _], _ => rfl)
  have d66 : Df K mg "_law_led" s__law_led ["five_v", "change"] := df_mk X G a66 l66 c66 k66 (fun _ _ _ _ _ _ us hl => match us, hl with | [_, _], _ => rfl)
  have d67 : Df K mg "_law_pair" s__law_pair ["c4", "c6"] := df_mk X G a67 l67 c67 k67 (fun _ _ _ _ _ _ us hl => match us, hl with | [_, _], _ => rfl)
  have d68 : Df K mg "_law_moved" s__law_moved ["m", "five_v", "scale"] := df_mk X G a68 l68 c68 k68 (fun _ _ _ _ _ _ us hl => match us, hl with | [_, _, _], _ => rfl)
  have d69 : Df K mg "_law_lets" s__law_lets ["c4", "c6"] := df_mk X G a69 l69 c69 k69 (fun _ _ _ _ _ _ us hl => match us, hl with | [_, _], _ => rfl)
  have d70 : Df K mg "_law_least_right" s__law_least_right ["five_v"] := df_mk X G a70 l70 c70 k70 (fun _ _ _ _ _ _ us hl => match us, hl with | [_], _ => rfl)
  refine law_fd X G hfa a71 l71 c71 k71 (fun _ _ _ _ _ _ us hl => match us, hl with | [_], _ => rfl) (fun fd F base => ?_)
  have c_valuation := k_valuation (P := P) (w := w) (base := base) T d4 
  have c_power := k_power (P := P) (w := w) (base := base) T d6 
  have c_lowest := k_lowest (P := P) (w := w) (base := base) T d7 
  have c_divided_by := k_divided_by (P := P) (w := w) (base := base) T d26 
  have c_five := k_five (P := P) (w := w) (base := base) T d31 
  have c_whole_fraction := k_whole_fraction (P := P) (w := w) (base := base) T d38 
  have c_over_whole := k_over_whole (P := P) (w := w) (base := base) T d45 
  have c_law_begun := k_law_begun (P := P) (w := w) (base := base) T d54 
  have c_law_draw := k_law_draw (P := P) (w := w) (base := base) T d55 
  have c_law_common := k_law_common (P := P) (w := w) (base := base) T d58 
  have c_law_numbers := k_law_numbers (P := P) (w := w) (base := base) T d64 
  have c_root_of := k_root_of (P := P) (w := w) (base := base) T d8 c_power
  have c_numbers_of := k_numbers_of (P := P) (w := w) (base := base) T d32 c_five
  have c_plus := k_plus (P := P) (w := w) (base := base) T d34 c_lowest
  have c_less := k_less (P := P) (w := w) (base := base) T d35 c_lowest
  have c_times := k_times (P := P) (w := w) (base := base) T d36 c_lowest
  have c_over := k_over (P := P) (w := w) (base := base) T d37 c_lowest
  have c_told_numbers := k_told_numbers (P := P) (w := w) (base := base) T d46 c_over_whole
  have c_law_of := k_law_of (P := P) (w := w) (base := base) T d56 c_law_draw
  have c_law_between := k_law_between (P := P) (w := w) (base := base) T d57 c_law_draw
  have c_law_cut := k_law_cut (P := P) (w := w) (base := base) T d59 c_law_common
  have c_law_pair := k_law_pair (P := P) (w := w) (base := base) T d67 c_law_numbers
  have c_exact_root := k_exact_root (P := P) (w := w) (base := base) T d9 c_root_of c_power
  have c_total := k_total (P := P) (w := w) (base := base) T d39 c_plus
  have c_product := k_product (P := P) (w := w) (base := base) T d40 c_times
  have c_curve_of := k_curve_of (P := P) (w := w) (base := base) T d47 c_told_numbers c_over_whole
  have c_law_plus := k_law_plus (P := P) (w := w) (base := base) T d60 c_law_cut
  have c_law_less := k_law_less (P := P) (w := w) (base := base) T d61 c_law_cut
  have c_law_by := k_law_by (P := P) (w := w) (base := base) T d62 c_law_cut
  have c_law_over := k_law_over (P := P) (w := w) (base := base) T d63 c_law_cut
  have c_law_curve := k_law_curve (P := P) (w := w) (base := base) T d65 c_law_between c_law_numbers
  have c_law_lets := k_law_lets (P := P) (w := w) (base := base) T d69 c_law_pair
  have c_change_with := k_change_with (P := P) (w := w) (base := base) T d42 c_times c_over c_whole_fraction c_less c_total c_five c_product
  have c_law_led := k_law_led (P := P) (w := w) (base := base) T d66 c_law_less c_law_plus c_law_by c_law_over
  have c_law_moved := k_law_moved (P := P) (w := w) (base := base) T d68 c_law_between c_law_led
  have c_without_great_powers := k_without_great_powers (P := P) (w := w) (base := base) d29
  have c_without_powers := k_without_powers (P := P) (w := w) (base := base) T d27 c_root_of c_without_great_powers c_divided_by
  have c_greatest_scale := k_greatest_scale (P := P) (w := w) (base := base) T d48 c_without_powers c_exact_root
  have c_least_and_scale := k_least_and_scale (P := P) (w := w) (base := base) T d49 c_numbers_of c_greatest_scale c_valuation c_curve_of c_power
  have c_least_model := k_least_model (P := P) (w := w) (base := base) T d50 c_least_and_scale c_change_with
  have c_is_least := k_is_least (P := P) (w := w) (base := base) T d51 c_five c_least_and_scale
  have c_scale_of := k_scale_of (P := P) (w := w) (base := base) T d52 c_least_and_scale
  have c_law_least_right := k_law_least_right (P := P) (w := w) (base := base) T d70 c_law_numbers c_law_lets c_least_model c_law_pair c_scale_of c_is_least c_law_led
  exact k_law T F c_least_model c_law_begun c_law_curve c_law_least_right c_law_of c_law_numbers c_law_moved c_scale_of
end K13
open PySem PySem.W PyProof.Rows
set_option maxRecDepth 100000 in
set_option maxHeartbeats 0 in
theorem PySem.Challenge.cw_pointsum_k13_whole_least_models_holds : PySem.Challenge.rw_pointsum_k13_whole_least_models.Holds := by
  w_on; o_law; k_head; (case hw => w_witness2)
  k_fill
  refine Gd.walk_g (l := PySem.Challenge.rw_pointsum_k13_whole_least_models) (n := 63) (k := 12) (x := "script") (sp := fun K => K13.sp_law K) rfl (by decide) rfl ⟨rfl, by decide, by decide⟩ (fun w h Y => PySem.W.kIn_of Y) ?F (fun K H a ns hl hS => ⟨a, ns, rfl, hS, hl, fun _ => rfl⟩)
  case F =>
    intro w mg fa h KX G hmg
    refine' K13.all_mk KX G hmg ?a4 ?l4 ?c4 ?k4 ?a6 ?l6 ?c6 ?k6 ?a7 ?l7 ?c7 ?k7 ?a8 ?l8 ?c8 ?k8 ?a9 ?l9 ?c9 ?k9 ?a26 ?l26 ?c26 ?k26 ?a27 ?l27 ?c27 ?k27 ?a29 ?l29 ?c29 ?k29 ?a31 ?l31 ?c31 ?k31 ?a32 ?l32 ?c32 ?k32 ?a34 ?l34 ?c34 ?k34 ?a35 ?l35 ?c35 ?k35 ?a36 ?l36 ?c36 ?k36 ?a37 ?l37 ?c37 ?k37 ?a38 ?l38 ?c38 ?k38 ?a39 ?l39 ?c39 ?k39 ?a40 ?l40 ?c40 ?k40 ?a42 ?l42 ?c42 ?k42 ?a45 ?l45 ?c45 ?k45 ?a46 ?l46 ?c46 ?k46 ?a47 ?l47 ?c47 ?k47 ?a48 ?l48 ?c48 ?k48 ?a49 ?l49 ?c49 ?k49 ?a50 ?l50 ?c50 ?k50 ?a51 ?l51 ?c51 ?k51 ?a52 ?l52 ?c52 ?k52 ?a54 ?l54 ?c54 ?k54 ?a55 ?l55 ?c55 ?k55 ?a56 ?l56 ?c56 ?k56 ?a57 ?l57 ?c57 ?k57 ?a58 ?l58 ?c58 ?k58 ?a59 ?l59 ?c59 ?k59 ?a60 ?l60 ?c60 ?k60 ?a61 ?l61 ?c61 ?k61 ?a62 ?l62 ?c62 ?k62 ?a63 ?l63 ?c63 ?k63 ?a64 ?l64 ?c64 ?k64 ?a65 ?l65 ?c65 ?k65 ?a66 ?l66 ?c66 ?k66 ?a67 ?l67 ?c67 ?k67 ?a68 ?l68 ?c68 ?k68 ?a69 ?l69 ?c69 ?k69 ?a70 ?l70 ?c70 ?k70 ?a71 ?l71 ?c71 ?k71 ?z_gcd ?z_isqrt ?z_int ?z_len ?z_tuple ?z_sorted ?z_min ?z_abs ?z_range ?z_enumerate ?z_repr ?z_TRIED_shortening ?w_REDUCED_B2 ?z_REDUCED_B2
    (case a4 => k_is); (case l4 => k_is); (case c4 => k_is); (case k4 => k_is); (case a6 => k_is); (case l6 => k_is); (case c6 => k_is); (case k6 => k_is)
    (case a7 => k_is); (case l7 => k_is); (case c7 => k_is); (case k7 => k_is); (case a8 => k_is); (case l8 => k_is); (case c8 => k_is); (case k8 => k_is)
    (case a9 => k_is); (case l9 => k_is); (case c9 => k_is); (case k9 => k_is); (case a26 => k_is); (case l26 => k_is); (case c26 => k_is); (case k26 => k_is)
    (case a27 => k_is); (case l27 => k_is); (case c27 => k_is); (case k27 => k_is); (case a29 => k_is); (case l29 => k_is); (case c29 => k_is); (case k29 => k_is)
    (case a31 => k_is); (case l31 => k_is); (case c31 => k_is); (case k31 => k_is); (case a32 => k_is); (case l32 => k_is); (case c32 => k_is); (case k32 => k_is)
    (case a34 => k_is); (case l34 => k_is); (case c34 => k_is); (case k34 => k_is); (case a35 => k_is); (case l35 => k_is); (case c35 => k_is); (case k35 => k_is)
    (case a36 => k_is); (case l36 => k_is); (case c36 => k_is); (case k36 => k_is); (case a37 => k_is); (case l37 => k_is); (case c37 => k_is); (case k37 => k_is)
    (case a38 => k_is); (case l38 => k_is); (case c38 => k_is); (case k38 => k_is); (case a39 => k_is); (case l39 => k_is); (case c39 => k_is); (case k39 => k_is)
    (case a40 => k_is); (case l40 => k_is); (case c40 => k_is); (case k40 => k_is); (case a42 => k_is); (case l42 => k_is); (case c42 => k_is); (case k42 => k_is)
    (case a45 => k_is); (case l45 => k_is); (case c45 => k_is); (case k45 => k_is); (case a46 => k_is); (case l46 => k_is); (case c46 => k_is); (case k46 => k_is)
    (case a47 => k_is); (case l47 => k_is); (case c47 => k_is); (case k47 => k_is); (case a48 => k_is); (case l48 => k_is); (case c48 => k_is); (case k48 => k_is)
    (case a49 => k_is); (case l49 => k_is); (case c49 => k_is); (case k49 => k_is); (case a50 => k_is); (case l50 => k_is); (case c50 => k_is); (case k50 => k_is)
    (case a51 => k_is); (case l51 => k_is); (case c51 => k_is); (case k51 => k_is); (case a52 => k_is); (case l52 => k_is); (case c52 => k_is); (case k52 => k_is)
    (case a54 => k_is); (case l54 => k_is); (case c54 => k_is); (case k54 => k_is); (case a55 => k_is); (case l55 => k_is); (case c55 => k_is); (case k55 => k_is)
    (case a56 => k_is); (case l56 => k_is); (case c56 => k_is); (case k56 => k_is); (case a57 => k_is); (case l57 => k_is); (case c57 => k_is); (case k57 => k_is)
    (case a58 => k_is); (case l58 => k_is); (case c58 => k_is); (case k58 => k_is); (case a59 => k_is); (case l59 => k_is); (case c59 => k_is); (case k59 => k_is)
    (case a60 => k_is); (case l60 => k_is); (case c60 => k_is); (case k60 => k_is); (case a61 => k_is); (case l61 => k_is); (case c61 => k_is); (case k61 => k_is)
    (case a62 => k_is); (case l62 => k_is); (case c62 => k_is); (case k62 => k_is); (case a63 => k_is); (case l63 => k_is); (case c63 => k_is); (case k63 => k_is)
    (case a64 => k_is); (case l64 => k_is); (case c64 => k_is); (case k64 => k_is); (case a65 => k_is); (case l65 => k_is); (case c65 => k_is); (case k65 => k_is)
    (case a66 => k_is); (case l66 => k_is); (case c66 => k_is); (case k66 => k_is); (case a67 => k_is); (case l67 => k_is); (case c67 => k_is); (case k67 => k_is)
    (case a68 => k_is); (case l68 => k_is); (case c68 => k_is); (case k68 => k_is); (case a69 => k_is); (case l69 => k_is); (case c69 => k_is); (case k69 => k_is)
    (case a70 => k_is); (case l70 => k_is); (case c70 => k_is); (case k70 => k_is); (case a71 => k_is); (case l71 => k_is); (case c71 => k_is); (case k71 => k_is)
    (case z_gcd => k_is); (case z_isqrt => k_is); (case z_int => k_is); (case z_len => k_is); (case z_tuple => k_is); (case z_sorted => k_is); (case z_min => k_is); (case z_abs => k_is)
    (case z_range => k_is); (case z_enumerate => k_is); (case z_repr => k_is); (case z_TRIED_shortening => k_is); (case w_REDUCED_B2 => k_is); (case z_REDUCED_B2 => k_is)
