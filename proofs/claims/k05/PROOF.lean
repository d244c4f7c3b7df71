import PyProof.Rows.All
import Wide.All
import OpenK.AllK
import Wide.FinOn
import PyProof.ReprRoads
import HandS.ForMost
import HandS.Wide
import PyProof.StrLawsRepr
import PyProof.ReprLen
import HandS.TupAny
import HandS.Gcd
import HandS.More
import HandS.IsInst
import HandS.Style
import HandS.Defaults
import HandS.Codes
import PySem.Challenge.RW_pointsum_k05_curves_and_their_numbers
set_option Elab.async false
set_option linter.all false
set_option maxRecDepth 100000
/-! Promises that know that no repr is under way around the call; repr of plain data. -/
namespace Gd
open PySem PySem.Spec PyProof.Rows L2
/-- as the layer's FnOk, for calls around which nothing is being shown -/
structure FnG (P : Program) (w : World) (K : PySem.W.Frag) (mg : Str → Option Value) (base : Heap) (k : Nat) (f : Addr) (fd : FuncData) (ps : List Str) (sp : Sp) : Prop where
  many : ∀ vs H Q E, sp vs H Q E → vs.length = ps.length
  goes : ∀ (A : Around) (outer : List Env) (s : Shared) (H : Hp) (args : Args) (us : List Value) (vs : List V) (Q : VK) (E : XK), A.guards = some [] → Room k A → Env0 P w K mg base A outer s H →
    BindsTo s fd args (ps.zip us) → Vals vs us → sp vs H Q E → codeAny (model P w) A (.call (.ref f) args) (CR CX0 outer P w H s Q E) s
section
variable {P : Program} {w : World} {K : PySem.W.Frag} {mg : Str → Option Value} {base : Heap}
theorem FnG.of {k : Nat} {f : Addr} {fd : FuncData} {ps : List Str} {sp : Sp} (F : FnOk P w K mg base CX0 k f fd ps sp) : FnG P w K mg base k f fd ps sp :=
  ⟨F.len, fun A outer s H args us vs Q E _ => F.run A outer s H args us vs Q E⟩
theorem FnG.up {j k : Nat} {f : Addr} {fd : FuncData} {ps : List Str} {sp : Sp} (F : FnG P w K mg base j f fd ps sp) (h : j ≤ k) : FnG P w K mg base k f fd ps sp :=
  ⟨F.many, fun A outer s H args us vs Q E hg hr => F.goes A outer s H args us vs Q E hg (hr.mono h)⟩
/-- a def by its body -/
theorem FnG.by_body {x qual : Str} {st : Stmt} {f : Addr} {fd : FuncData} {N ps : List Str} {k : Nat} {sp : Sp} (F : Fun K x qual st f fd) (S : FnScope N ps (defScope st)) (len : ∀ vs H Q E, sp vs H Q E → vs.length = ps.length)
    (hb : ∀ (cdv : Value) (A : Around) (outer : List Env) (s : Shared) (H : Hp) (vs : List V) (Q : VK) (E : XK), A.guards = some [] → Room k (A.deeper (envOfC qual (defScope st) s.heap.objs.size f cdv)) → sp vs H Q E →
      ∃ t, PSs (cxOf CX0 P w K mg base N qual (defScope st) f cdv A outer s H E).nox (defBody st) t ∧ t { nx := fun _ H' => Q .non H', rt := Q } (start N vs) H) : FnG P w K mg base (k + 1) f fd ps sp := by
  obtain ⟨oc, od, kV, doc, pm, an, cdv, ct, osl, rfl, lk, hcd⟩ := F.ex
  constructor
  · exact len
  · intro A outer s H args us vs Q E hg hr e0 hbi rv hsp
    have hlen := len _ _ _ _ hsp
    have lim : s.heap.NoLimit := e0.mod.nolimit.keeps fun b o e => (e0.bs b o e).1
    have inK : K.In s.heap := e0.mod.kin.keeps fun b o e => (e0.bs b o e).1
    have kinds : ∀ y ∈ ps.zip us, (defScope st).names.lookup y.1 = some .local ∨ ((defScope st).names.lookup y.1 = some .cell ∧ ((cellsFrom (s.heap.objs.size + 1) (defScope st).names []).lookup y.1).isSome = true) := by
      rintro ⟨n, v⟩ hy
      have hp := S.par n (List.of_mem_zip hy).1
      cases hp with
      | inl q => exact Or.inl q
      | inr q => exact Or.inr ⟨q, PySem.W.cellsFrom_some _ _ _ (Or.inl q)⟩
    refine codeAny_call_function hr.depth (inK _ _ lk) rfl S.co S.gen rfl (PySem.W.codeRec_of inK hcd) (hbi _ _ _ _ ?_)
    refine wpAny_newFunctionEnv_cells S.kind kinds fun env he s1 x1 => ?_
    subst he
    refine ⟨lim.keeps x1.toInCall.keep, codeAny_func ?_⟩
    obtain ⟨t, ht, hq⟩ := hb cdv A outer s H vs Q E hg (hr.deeper _) hsp
    have I0 : Inv (cxOf CX0 P w K mg base N qual (defScope st) f cdv A outer s H E) [] (start N vs) H s1 := inv_start S hr.hd e0 hlen rv x1
    refine wpAny_mono (ht.nox.run [] s1 (start N vs) H _ I0 hq) (fun fl s' hs => ?_) fun e s' hs => hs
    match fl, hs with
    | .ret u, ⟨v, σ', H', J, r1, q1⟩ => exact ⟨v, H', J.os, J.bare, J.base, J.hok, r1, q1⟩
    | .next, ⟨σ', H', J, q1⟩ => exact ⟨V.non, H', J.os, J.bare, J.base, J.hok, rfl, q1⟩
    | .brk, ⟨_, _, _, q1⟩ => exact q1.elim
    | .cont, ⟨_, _, _, q1⟩ => exact q1.elim
end
/-- f(e, ..) where every parameter is given -/
def tKal (sp : Sp) (t : TA) : TE := fun σ H Q => t σ H fun vs H1 => sp vs H1 Q E0
/-- a def that may be called by its name -/
structure Kl (P : Program) (w : World) (K : PySem.W.Frag) (mg : Str → Option Value) (base : Heap) (k : Nat) (x : Str) (sp : Sp) : Prop where
  ex : ∃ (f : Addr) (fd : FuncData) (ps : List Str), FnOk P w K mg base CX0 k f fd ps sp ∧ mg x = some (.ref f) ∧ PySem.W.keepIn K (.ref f) = true ∧ Binds K fd ps []
structure Kg (P : Program) (w : World) (K : PySem.W.Frag) (mg : Str → Option Value) (base : Heap) (k : Nat) (x : Str) (sp : Sp) : Prop where
  ex : ∃ (f : Addr) (fd : FuncData) (ps : List Str), FnG P w K mg base k f fd ps sp ∧ mg x = some (.ref f) ∧ PySem.W.keepIn K (.ref f) = true ∧ Binds K fd ps []
section
variable {X : Cx} {j k : Nat} {f : Addr} {fd : FuncData} {ps : List Str} {sp : Sp} {x : Str} {p pos : Pos} {e : Expr} {es : List Expr} {t : TA}
theorem run_g {pins : List (Addr × Obj)} {σ : L2.St} {H : Hp} {s : Shared} {Q : VK} {us : List Value} {vs : List V} (F : FnG X.prog X.w X.K X.mg X.base k f fd ps sp) (hg : X.A.guards = some []) (hr : Room k X.A) (hb : Binds X.K fd ps [])
    (I : Inv X pins σ H s) (r : Vals vs us) (h : sp vs H Q E0) : wpAny (model X.prog X.w) X.A (call (.ref f) us) (EP X pins σ Q) X.xe s := by
  have hl : us.length = ps.length := r.length.symm.trans (F.many _ _ _ _ h)
  have hbb := hb s us I.kIn (by rw [List.append_nil]; exact hl)
  rw [List.append_nil] at hbb
  refine wpAny_call (codeAny_mono (F.goes X.A X.stack s H ⟨us, []⟩ us vs Q E0 hg hr I.env0 hbb r h) fun res s' hq => ?_)
  match res, hq with
  | .ok (.ret u), hq => exact I.after hq
  | .error e, hq => exact (show False from hq).elim
theorem pe_g (c : Kg X.prog X.w X.K X.mg X.base k x sp) (hgd : X.A.guards = some []) (hr : Room j X.A) (hk : k ≤ j) (hg : Gl X x) (ha : PA X (e :: es) t)
    (hdb : (x == ("__debug__" : Str)) = false := by decide) (he : starEach (e :: es) X.env = (false, eval e X.env) :: starEach es X.env := by rfl) (hpl : (backTo pos (starEach es X.env)).any (·.1) = false := by rfl) :
    PE X (.Call (.Name x p) (e :: es) [] pos) (tKal sp t) := by
  obtain ⟨f, fd, ps, F, hm, kp, b⟩ := c.ex
  constructor
  intro pins s σ H Q I h
  refine wpAny_Call_Name_kw (ld_glob I hg hm ?_ hdb)
  refine PySem.W.callWith_K (h₀ := X.base) I.ok.mod.kin kp (thn (ha.run pos pins s σ H _ I h) fun us s1 ⟨vs, H1, I1, r, q⟩ => ⟨I1.kIn, ?_⟩) he hpl
  exact run_g F hgd (hr.mono hk) b I1 r q
theorem pe_k (c : Kl X.prog X.w X.K X.mg X.base k x sp) (hr : Room j X.A) (hk : k ≤ j) (hg : Gl X x) (ha : PA X (e :: es) t)
    (hdb : (x == ("__debug__" : Str)) = false := by decide) (he : starEach (e :: es) X.env = (false, eval e X.env) :: starEach es X.env := by rfl) (hpl : (backTo pos (starEach es X.env)).any (·.1) = false := by rfl) :
    PE X (.Call (.Name x p) (e :: es) [] pos) (tKal sp t) := by
  obtain ⟨f, fd, ps, F, hm, kp, b⟩ := c.ex
  have h := pe_call (sp := sp) (E := E0) (dvs := []) F (hr.mono hk) hg hm kp b .nil pass0 ha hdb he hpl (pos := pos) (p := p)
  constructor
  intro pins s σ H Q I q
  refine h.run pins s σ H Q I ?_
  have e2 : tCall sp [] E0 t = tKal sp t := by
    funext σ H Q
    show t σ H (fun vs H1 => sp (vs ++ []) H1 Q E0) = t σ H (fun vs H1 => sp vs H1 Q E0)
    congr 1
    funext vs H1
    rw [List.append_nil]
  rw [e2]
  exact q
end
/-! ### repr of plain data -/
mutual
/-- at most so many signs -/
def wt : PyData → Nat
  | .none | .bool _ => 5
  | .int _ => 1921
  | .str x => 10 * x.length + 2
  | .list xs | .tuple xs => wtAll xs + 3
  | .dict _ => 0
def wtAll : List PyData → Nat
  | [] => 0
  | x :: xs => wt x + 2 + wtAll xs
end
mutual
/-- data that can be shown: its ints below 1920 bits -/
def okD : PyData → Bool
  | .none | .bool _ => true
  | .int i => decide (i.natAbs.log2 < 1920)
  | .str x => x.cps.toList.all fun c => decide (c < 16 ^ 8)
  | .list xs | .tuple xs => okAll xs
  | .dict _ => false
def okAll : List PyData → Bool
  | [] => true
  | x :: xs => okD x && okAll xs
end
theorem one_br : (("[" : Str)).length = 1 := rfl
theorem one_br2 : (("]" : Str)).length = 1 := rfl
theorem one_pa : (("(" : Str)).length = 1 := rfl
theorem tup_wt (ts : List Str) : (tupleText ts).length ≤ piled ts + 3 := by
  have e3 : (((if ts.length == 1 then ",)" else ")" : String) : Str)).length ≤ 2 := by split <;> decide +kernel
  unfold tupleText
  rw [strLen_append, strLen_append, one_pa]
  cases ts with
  | nil =>
    have : (Str.join ", " []).length = 0 := by decide +kernel
    omega
  | cons x r =>
    have := join_length_add (x :: r) (List.cons_ne_nil _ _)
    omega
theorem sum_piled : ∀ ts : List Str, (ts.map (·.length)).sum + 2 * ts.length = piled ts
  | [] => rfl
  | t :: ts => by
    have ih := sum_piled ts
    rw [piled_cons, ← ih, List.map_cons, List.sum_cons, List.length_cons]
    omega
theorem lst_wt (ts : List Str) : (listText ts).length ≤ piled ts + 3 := by
  have h := textFrom_len_le ts 0 "["
  have h2 := sum_piled ts
  unfold listText
  rw [strLen_append, one_br2]
  rw [one_br] at h
  omega
mutual
theorem shown_wt : ∀ d : PyData, okD d = true → d.shown.length ≤ wt d ∧ d.showable = true ∧ d.hasDict = false
  | .none, _ => by
    refine ⟨?_, rfl, rfl⟩
    show (("None" : Str)).length ≤ 5
    decide +kernel
  | .bool b, _ => by
    refine ⟨?_, rfl, rfl⟩
    cases b <;> (show _ ≤ 5; decide +kernel)
  | .int i, h => by
    have h1 : i.natAbs.log2 < 1920 := of_decide_eq_true (by simpa only [okD] using h)
    refine ⟨?_, by simpa only [PyData.showable] using decide_eq_true h1, rfl⟩
    have e := int_text_length_le (k := 1920) (by decide) h1
    show (Str.ofString (toString i)).length ≤ 1921
    rw [PySem.ofString_length]
    exact e
  | .str x, h => by
    refine ⟨?_, rfl, rfl⟩
    have h1 : ∀ c ∈ x.cps.toList, c < 16 ^ 8 := fun c hc => of_decide_eq_true (List.all_eq_true.mp (by simpa only [okD] using h) c hc)
    exact StrLaws.reprText_len x h1
  | .list xs, h => by
    obtain ⟨h1, h2, h3⟩ := shown_wtAll xs (by simpa only [okD] using h)
    refine ⟨?_, by simpa only [PyData.showable] using h2, by simpa only [PyData.hasDict] using h3⟩
    simp only [PyData.shown, wt]
    exact Nat.le_trans (lst_wt _) (Nat.add_le_add_right h1 3)
  | .tuple xs, h => by
    obtain ⟨h1, h2, h3⟩ := shown_wtAll xs (by simpa only [okD] using h)
    refine ⟨?_, by simpa only [PyData.showable] using h2, by simpa only [PyData.hasDict] using h3⟩
    simp only [PyData.shown, wt]
    exact Nat.le_trans (tup_wt _) (Nat.add_le_add_right h1 3)
  | .dict _, h => by simp only [okD, Bool.false_eq_true] at h
theorem shown_wtAll : ∀ xs : List PyData, okAll xs = true → piled (PyData.shownAll xs) ≤ wtAll xs ∧ PyData.showableAll xs = true ∧ PyData.hasDictAll xs = false
  | [], _ => ⟨Nat.le_refl _, rfl, rfl⟩
  | x :: xs, h => by
    have h0 : (okD x && okAll xs) = true := by simpa only [okAll] using h
    rw [Bool.and_eq_true] at h0
    obtain ⟨a1, a2, a3⟩ := shown_wt x h0.1
    obtain ⟨b1, b2, b3⟩ := shown_wtAll xs h0.2
    refine ⟨?_, by simp only [PyData.showableAll, a2, b2, Bool.and_self], by simp only [PyData.hasDictAll, a3, b3, Bool.or_self]⟩
    simp only [PyData.shownAll, wtAll]
    rw [piled_cons]
    omega
end
/-- the text of data -/
def rRepr (K : PySem.W.Frag) : List V → Hp → VK → Prop := fun xs H Q => ∃ x d, xs = [x] ∧ Dp K H x d ∧ okD d = true ∧ d.depth ≤ 40 ∧ wt d ≤ 1000000 ∧ Q (.str d.shown) H
section
variable {X : Cx}
theorem call_reprD (hg : X.A.guards = some []) (hu : X.A.units + 64 < cLine) : CallR X (.builtin "repr") (rRepr X.K) := by
  intro pins s σ H xs us Q I r h
  obtain ⟨x, d, rfl, hd, h0, h3, hw, q⟩ := h
  obtain ⟨hz, h1, h2⟩ := shown_wt d h0
  have h4 : d.shown.length ≤ sizeLine := Nat.le_trans hz (Nat.le_trans hw (by decide))
  obtain ⟨u, rfl, hx⟩ := vals1 r
  obtain ⟨as, rd⟩ := Dp.reads I d x u hd hx
  cases hd with
  | non =>
    obtain rfl : u = Value.none := hx
    exact PySem.P.repr_of_none ⟨.str _, H, I.tok _, ⟨_, rfl⟩, q⟩
  | bl b =>
    obtain rfl : u = Value.bool b := hx
    exact PySem.P.repr_of_bool ⟨.str _, H, I.tok _, ⟨_, rfl⟩, q⟩
  | int i =>
    obtain ⟨t, rfl⟩ := hx
    exact PySem.P.repr_of_int (of_decide_eq_true h1) ⟨.str _, H, I.tok _, ⟨_, rfl⟩, q⟩
  | str z =>
    obtain ⟨t, rfl⟩ := hx
    exact PySem.P.repr_of_str ⟨.str _, H, I.tok _, ⟨_, rfl⟩, q⟩ h4
  | lst hs ha =>
    obtain rfl : u = Value.ref _ := hx
    refine repr_of_reads' rd h1 (PyData.noDict_hsm h2) hg (by omega) (fun _ _ z => z) (fun h' u tk hk => ?_) h4
    exact ⟨.str _, H, I.kept (t' := tk) hk, ⟨_, rfl⟩, q⟩
  | tup hs ha =>
    obtain rfl : u = Value.ref _ := hx
    refine repr_of_reads' rd h1 (PyData.noDict_hsm h2) hg (by omega) (fun _ _ z => z) (fun h' u tk hk => ?_) h4
    exact ⟨.str _, H, I.kept (t' := tk) hk, ⟨_, rfl⟩, q⟩
end
/-! ### the law's end -/
section
variable {P : Program} {w : World} {K : PySem.W.Frag} {mg mb : Str → Option Value} {k : Nat} {fa a : Addr} {fd : FuncData} {x : Str} {sp : Sp} {s1 : Shared} {vs : List Value} {ns : List Int}
/-- from a heap H in which at most the script is tracked -/
theorem law_from {H : Hp} (KX : K.In s1.heap) (hns : s1.heap.Ns mainGlobals mg) (hb : s1.heap.Ns builtinsNs mb) (hbb : ∀ x : Str, x ≠ "__name__" → mb x = bootBuiltins x) (hlim : s1.heap.NoLimit) (hg : s1.gens = #[])
    (ha : s1.heap.get? a = some { cls := .type "list", data := .seq vs.toArray }) (hr : Room k callerA) (F : ∀ base : Heap, K.In base → base.Ns mainGlobals mg → FnG P w K mg base k fa fd [x] sp)
    (hbind : ∀ (s : Shared) (u : Value), BindsTo s fd ⟨[u], []⟩ [(x, u)]) (hO : Only H) (hok : HOk P w H s1.heap) (hA : ∀ b, H b ≠ none → b = a) (hK : H a ≠ none → K.lookup a = none)
    (hsp : sp [.ref a] H (fun v _ => v = .bl true) fun _ _ _ => False) :
    codeAny (model P w) callerA (.call (.ref fa) ⟨[.ref a], []⟩) (fun r s' => r = .ok (.ret (.bool true)) ∧ OldK s1.heap s'.heap ∧ s'.os = s1.os ∧ AllBare s'.gens) s1 := by
  have untr : ∀ {b : Addr} {o : Obj} {es : Array DictEntry} {ep : Nat}, s1.heap.get? b = some o → o.data = .dict es ep → H b = none := by
    intro b o es ep e d
    cases q : H b with
    | none => rfl
    | some u =>
      obtain rfl : b = a := hA b (by rw [q]; exact Option.some_ne_none u)
      rw [ha] at e
      cases e
      exact absurd (show Data.seq vs.toArray _ = Data.dict es ep from d) (by intro z; cases z)
  have nsH : ∀ {b : Addr} {m : Str → Option Value}, s1.heap.Ns b m → (hidT s1.heap H).Ns b m := by
    rintro b m ⟨o, es, ep, e, d, r⟩
    exact ⟨o, es, ep, hidT_get e (untr e d), d, r⟩
  have inH : K.In (hidT s1.heap H) := by
    intro b o e
    refine hidT_get (KX b o e) ?_
    cases q : H b with
    | none => rfl
    | some u =>
      have hne : H b ≠ none := by rw [q]; exact Option.some_ne_none u
      obtain rfl : b = a := hA b hne
      rw [hK hne] at e
      cases e
  obtain ⟨mc, l1, l2⟩ := hlim
  have md : Mod K mg (hidT s1.heap H) := ⟨inH, nsH hns, ⟨mb, nsH hb, hbb⟩, ⟨mc, nsH l1, l2⟩⟩
  have e0 : Env0 P w K mg (hidT s1.heap H) callerA [] s1 H := by
    refine ⟨rfl, md, fun b o e => of_hidT e, Nat.le_of_eq (hidT_size _ _), trivial, ?_, hok, .of_eq hg⟩
    intro b hb
    cases (show b ∈ ([] : List Addr) from hb)
  have run := (F _ inH (nsH hns)).goes callerA [] s1 H ⟨[.ref a], []⟩ [.ref a] [.ref a] _ _ rfl hr e0 (hbind s1 (.ref a)) (.cons rfl .nil) hsp
  refine codeAny_mono run fun r s' h => ?_
  match r, h with
  | .error e, h => exact (show False from h).elim
  | .ok (.ret u), ⟨v, H', os, bare, un, hok', r', q⟩ =>
    obtain rfl : v = .bl true := q
    obtain rfl : u = Value.bool true := r'
    refine ⟨rfl, OldK.of_keep ?_, os, bare⟩
    intro b o e
    cases q : H b with
    | none => exact un.keep b o e q (fun z => by cases (show b ∈ ([] : List Addr) from z)) (fun z => by cases z)
    | some u =>
      rcases hO b with z | ⟨ob, xs, z⟩
      · rw [q] at z
        cases z
      · have k1 := (hok b _ z).1
        have k2 := (hok' b _ (un.frzs b ob _ z)).1
        rw [e] at k1
        cases k1
        exact k2
theorem law_g (KX : K.In s1.heap) (hns : s1.heap.Ns mainGlobals mg) (hb : s1.heap.Ns builtinsNs mb) (hbb : ∀ x : Str, x ≠ "__name__" → mb x = bootBuiltins x) (hlim : s1.heap.NoLimit) (hg : s1.gens = #[])
    (ha : s1.heap.get? a = some { cls := .type "list", data := .seq vs.toArray }) (hi : IntsAre vs ns) (hl : ns.length ≤ sizeLine) (hr : Room k callerA) (F : ∀ base : Heap, K.In base → base.Ns mainGlobals mg → FnG P w K mg base k fa fd [x] sp)
    (hbind : ∀ (s : Shared) (u : Value), BindsTo s fd ⟨[u], []⟩ [(x, u)]) (hsp : ∀ H : Hp, Only H → SqL K H a (ns.map V.int) → sp [.ref a] H (fun v _ => v = .bl true) fun _ _ _ => False) :
    codeAny (model P w) callerA (.call (.ref fa) ⟨[.ref a], []⟩) (fun r s' => r = .ok (.ret (.bool true)) ∧ OldK s1.heap s'.heap ∧ s'.os = s1.os ∧ AllBare s'.gens) s1 := by
  have rv := vals_ints hi
  have lv := hi.length
  cases hk : K.lookup a with
  | some o =>
    have e := KX a o hk
    rw [ha] at e
    cases e
    refine law_from (H := fun _ => none) KX hns hb hbb hlim hg ha hr F hbind (fun _ => Or.inl rfl) (fun b u z => ?_) (fun b z => absurd rfl z) (fun z => absurd rfl z) (hsp _ (fun _ => Or.inl rfl) (Or.inr ?_))
    · cases (show (none : Option HO) = some u from z)
    · exact ⟨_, vs.toArray, _, hk, rfl, rfl, rfl, by rw [List.size_toArray, lv]; exact hl, by simpa using rv⟩
  | none =>
    let ob : Obj := { cls := .type "list", data := .seq vs.toArray }
    have one : ∀ b, (if b = a then some (HO.frz ob (.lst (ns.map V.int))) else none) ≠ none → b = a := fun b z => by
      by_cases hb : b = a
      · exact hb
      · exact absurd (if_neg hb) z
    have only : Only (fun b => if b = a then some (HO.frz ob (.lst (ns.map V.int))) else none) := fun b => by
      by_cases hb : b = a
      · exact Or.inr ⟨_, _, if_pos hb⟩
      · exact Or.inl (if_neg hb)
    refine law_from (H := fun b => if b = a then some (HO.frz ob (.lst (ns.map V.int))) else none) KX hns hb hbb hlim hg ha hr F hbind only (fun b u z => ?_) one (fun _ => hk) (hsp _ only (Or.inl (Or.inr ⟨ob, if_pos rfl⟩)))
    by_cases hb : b = a
    · obtain rfl := Option.some.inj ((if_pos hb).symm.trans z)
      subst hb
      exact ⟨ha, by rw [List.length_map]; exact hl, vs, _, rv, ha⟩
    · cases (if_neg hb).symm.trans z
end
theorem walk_g {l : PySem.W.OpenLaw} {n k : Nat} {q : Program} {loose : List Str} {XP : (Str → Option Value) → Heap → Prop} {YP : World → Heap → Prop} {d : DefRec} {K : Params → PySem.W.Frag} {sp : PySem.W.Frag → Sp} {x : Str}
    (hn : l.most = some n) (hn2 : n ≤ sizeLine) (hdf : d.params.defaults = []) (hr : Room k callerA) (hY : ∀ (w : World) (h : Heap), YP w h → (K w.params).In h)
    (F : ∀ (w : World) (mg : Str → Option Value) (fa : Addr) (h : Heap), (K w.params).In h → h.Ns mainGlobals mg → mg d.name = some (.ref fa) → ∃ fd : FuncData, (∀ (s : Shared) (u : Value), BindsTo s fd ⟨[u], []⟩ [(x, u)]) ∧
        ∀ base : Heap, (K w.params).In base → base.Ns mainGlobals mg → FnG l.prog w (K w.params) mg base k fa fd [x] (sp (K w.params)))
    (hsp : ∀ (K : PySem.W.Frag) (H : Hp) (a : Addr) (ns : List Int), ns.length ≤ n → SqL K H a (ns.map V.int) → sp K [.ref a] H (fun v _ => v = .bl true) fun _ _ _ => False) :
    PySem.W.WalkO q loose XP YP l.row.toRowW d [] (fun f vs => PySem.call f vs) := by
  refine Att.attach_call hn hdf fun w s0 s1 mg mb fa o pm cd doc a vs ns G Y ho hd hcd hmg hobj hints hlen hg => ?_
  obtain ⟨fd, hb, hF⟩ := F w mg fa _ (hY w _ Y) G.T.g hmg
  exact law_g (hY w _ Y) G.T.g G.T.b G.T.builtins G.T.nolimit hg hobj hints (Nat.le_trans hlen hn2) hr hF hb fun H _ hS => hsp (K w.params) H a ns hlen hS
end Gd
set_option Elab.async false
set_option linter.all false
set_option maxRecDepth 100000
/-! Common words: sizes of ints, heaps that grow, defs of the text by their names. -/
namespace Gd
open PySem PySem.Spec PyProof.Rows L2
/-! ### sizes -/
def B (n : Nat) (x : Int) : Prop := x.natAbs < 2 ^ n
theorem B.up {m n : Nat} {x : Int} (h : B m x) (k : m ≤ n) : B n x := Nat.lt_of_lt_of_le h (Nat.pow_le_pow_right (by decide) k)
theorem B.add {m n : Nat} {x y : Int} (hx : B m x) (hy : B n y) : B (max m n + 1) (x + y) := by
  have h1 : x.natAbs < 2 ^ max m n := hx.up (Nat.le_max_left m n)
  have h2 : y.natAbs < 2 ^ max m n := hy.up (Nat.le_max_right m n)
  unfold B
  rw [Nat.pow_succ]
  omega
theorem B.neg {n : Nat} {x : Int} (hx : B n x) : B n (-x) := by
  unfold B at *
  omega
theorem B.sub {m n : Nat} {x y : Int} (hx : B m x) (hy : B n y) : B (max m n + 1) (x - y) := by
  rw [Int.sub_eq_add_neg]
  exact hx.add hy.neg
theorem B.mul {m n : Nat} {x y : Int} (hx : B m x) (hy : B n y) : B (m + n) (x * y) := wide_lt hx hy
theorem B.pow {m : Nat} {x : Int} (hx : B m x) : ∀ k : Nat, B (m * k + 1) (x ^ k)
  | 0 => by
    rw [Int.pow_zero]
    exact Nat.one_lt_two_pow (by omega)
  | k + 1 => by
    rw [Int.pow_succ]
    exact ((B.pow hx k).mul hx).up (by rw [Nat.mul_succ]; omega)
theorem B.lit {n : Nat} {x : Int} (h : x.natAbs < 2 ^ n) : B n x := h
theorem B.mulW {m n : Nat} {x y : Int} (hx : B m x) (hy : B n y) (h : m + n ≤ 900000) : CMulW x y :=
  wide_mul (hx.up (Nat.le_add_right m 1)) (hy.up (Nat.le_add_right n 1)) (by omega) (by omega) (by omega)
theorem B.mulL {n : Nat} {x y : Int} (hx : B n x) (h : n ≤ 64) : CMul x y := by
  have h1 := hx.up h
  unfold B at h1
  exact Or.inl ⟨by omega, by omega⟩
theorem B.mulR {n : Nat} {x y : Int} (hy : B n y) (h : n ≤ 64) : CMul x y := by
  have h1 := hy.up h
  unfold B at h1
  exact Or.inr ⟨by omega, by omega⟩
theorem B.log {n : Nat} {x : Int} (hx : B n x) (h : n ≤ 1900) : x.natAbs.log2 < 1920 := by
  have h1 : x.natAbs < 2 ^ 1901 := hx.up (by omega)
  exact PySem.Flt.log2_lt_of (by decide) (Nat.lt_of_lt_of_le h1 (Nat.pow_le_pow_right (by decide) (by decide)))
theorem B.between {n : Nat} {x : Int} (m : Int) (h0 : -m ≤ x) (h1 : x ≤ m) (h : m.natAbs < 2 ^ n) : B n x := by
  unfold B
  omega
theorem small {n : Nat} (h : n ≤ 1000) : n ≤ sizeLine := Nat.le_trans h (by decide)
/-! ### heaps -/
theorem Same.new {H : Hp} {p : Addr} {o : HO} (h : H p = none) : Same H (upd H p o) := fun b x e => by
  rw [upd_ne (ne_of_none e h)]
  exact e
theorem Same.put {H H1 : Hp} {p : Addr} {o : HO} (s : Same H H1) (h : H p = none) : Same H (upd H1 p o) := fun b x e => by
  rw [upd_ne (ne_of_none e h)]
  exact s b x e
theorem Same.rd {H H' : Hp} {a : Addr} {u : HO} (e : Same H H') (h : Rd H a u) : Rd H' a u := by
  rcases h with h | ⟨o, h⟩
  · exact Or.inl (e _ _ h)
  · exact Or.inr ⟨o, e _ _ h⟩
theorem Same.tup {K : PySem.W.Frag} {H H' : Hp} {a : Addr} {xs : List V} (e : Same H H') (h : SqT K H a xs) : SqT K H' a xs := by
  rcases h with h | h
  · exact Or.inl (Same.rd e h)
  · exact Or.inr h
theorem tup_of {K : PySem.W.Frag} {H : Hp} {a : Addr} {xs : List V} (h : H a = some (.tup xs)) : SqT K H a xs := Or.inl (Or.inl h)
theorem lst_of {K : PySem.W.Frag} {H : Hp} {a : Addr} {xs : List V} (h : H a = some (.lst xs)) : SqL K H a xs := Or.inl (Or.inl h)
/-- all but what stands at m is as it was -/
def But (m : Addr) (H H' : Hp) : Prop := ∀ b o, H b = some o → b ≠ m → H' b = some o
theorem But.refl (m : Addr) (H : Hp) : But m H H := fun _ _ e _ => e
theorem But.trans {m : Addr} {H H1 H2 : Hp} (a : But m H H1) (b : But m H1 H2) : But m H H2 := fun c o e n => b c o (a c o e n) n
theorem But.of {m : Addr} {H H' : Hp} (a : Same H H') : But m H H' := fun c o e _ => a c o e
theorem But.upd {m : Addr} {H : Hp} {o : HO} : But m H (upd H m o) := fun c x e n => by
  rw [upd_ne n]
  exact e
/-- the same where m was not known -/
theorem But.same {m : Addr} {H H1 H2 : Hp} (s : Same H H1) (b : But m H1 H2) (h : H m = none) : Same H H2 := fun c o e => b c o (s c o e) (ne_of_none e h)
/-- the slots said anew -/
theorem sig {nx : L2.St → Hp → Prop} {σ : L2.St} {H : Hp} (σ' : L2.St) (e : σ = σ') (h : nx σ' H) : nx σ H := e ▸ h
theorem sigN {nx : L2.St → Hp → Prop} {i : Nat} {v : V} {σ : L2.St} {H : Hp} (σ' : L2.St) (e : σ.set i (some v) = σ') (h : nx σ' H) : gName i v σ H nx := by
  subst e
  exact h
/-- a number of the module -/
theorem pe_kon {X : Cx} {x : Str} {pos : Pos} {v : V} (hg : Gl X x) (h : ∃ u, X.mg x = some u ∧ RelV v u) (hd : (x == ("__debug__" : Str)) = false := by decide) : PE X (.Name x pos) (tC v) := by
  obtain ⟨u, hm, r⟩ := h
  exact pe_glob hg hm r hd
/-- int(n) of a number -/
theorem call_intI {X : Cx} : CallR X (.type "int") (fun xs H Q => ∃ i, xs = [.int i] ∧ Q (.int i) H) := fun pins s σ H xs us Q I r h => call_int1 pins s σ H xs us Q I r (Or.inl h)
/-! ### the state of the draws: four entries -/
def mk4 (L s : Int) (c : Addr) (n : Int) : List (Key × V) := [(Sum.inr "left", .int L), (Sum.inr "seed", .int s), (Sum.inr "cells", .ref c), (Sum.inr "spot", .int n)]
theorem kn12 : ¬ (("left" : Str) = "seed") := by decide +kernel
theorem kn13 : ¬ (("left" : Str) = "cells") := by decide +kernel
theorem kn14 : ¬ (("left" : Str) = "spot") := by decide +kernel
theorem kn23 : ¬ (("seed" : Str) = "cells") := by decide +kernel
theorem kn24 : ¬ (("seed" : Str) = "spot") := by decide +kernel
theorem kn34 : ¬ (("cells" : Str) = "spot") := by decide +kernel
theorem kn21 : ¬ (("seed" : Str) = "left") := by decide +kernel
theorem kn31 : ¬ (("cells" : Str) = "left") := by decide +kernel
theorem kn41 : ¬ (("spot" : Str) = "left") := by decide +kernel
theorem kn42 : ¬ (("spot" : Str) = "seed") := by decide +kernel
theorem kn43 : ¬ (("spot" : Str) = "cells") := by decide +kernel
theorem kn32 : ¬ (("cells" : Str) = "seed") := by decide +kernel
section
variable {L s n : Int} {c : Addr}
theorem m4_left : valV (mk4 L s c n) (Sum.inr "left") = some (.int L) := by simp [valV, mk4, List.find?_cons]
theorem m4_seed : valV (mk4 L s c n) (Sum.inr "seed") = some (.int s) := by simp [valV, mk4, List.find?_cons, kn12]
theorem m4_cells : valV (mk4 L s c n) (Sum.inr "cells") = some (.ref c) := by simp [valV, mk4, List.find?_cons, kn13, kn23]
theorem m4_spot : valV (mk4 L s c n) (Sum.inr "spot") = some (.int n) := by simp [valV, mk4, List.find?_cons, kn14, kn24, kn34]
theorem m4_putL (y : Int) : putK (mk4 L s c n) (Sum.inr "left") (.int y) = mk4 y s c n := by simp [putK, mk4, kn21, kn31, kn41]
theorem m4_merge : mergeK [] (mk4 L s c n) = mk4 L s c n := by simp [mergeK, putK, mk4, List.foldl, kn12, kn13, kn14, kn23, kn24, kn34]
theorem m4_putS (y : Int) : putK (mk4 L s c n) (Sum.inr "spot") (.int y) = mk4 L s c y := by simp [putK, mk4, kn14, kn24, kn34]
end
/-- the state stands at m, with at most n draws out of the cells behind it -/
def MAt (H : Hp) (m c : Addr) (n : Nat) : Prop := ∃ (L s : Int) (cs : List Int) (k : Nat), H m = some (.dK (mk4 L s c (k : Int))) ∧ k ≤ n ∧ H c = some (.lst (cs.map V.int)) ∧ 0 < cs.length
theorem MAt.up {H : Hp} {m cl : Addr} {n n' : Nat} (h : MAt H m cl n) (k : n ≤ n') : MAt H m cl n' := by
  obtain ⟨L, s, cs, j, h1, h2, h3, h4⟩ := h
  exact ⟨L, s, cs, j, h1, Nat.le_trans h2 k, h3, h4⟩
theorem MAt.same {H H' : Hp} {m cl : Addr} {n : Nat} (h : MAt H m cl n) (e : Same H H') : MAt H' m cl n := by
  obtain ⟨L, s, cs, j, h1, h2, h3, h4⟩ := h
  exact ⟨L, s, cs, j, e _ _ h1, h2, e _ _ h3, h4⟩
theorem MAt.some {H : Hp} {m cl : Addr} {n : Nat} (h : MAt H m cl n) : ∃ kvs, H m = some (.dK kvs) := by
  obtain ⟨L, s, cs, j, h1, _⟩ := h
  exact ⟨_, h1⟩
theorem MAt.ne {H : Hp} {m cl p : Addr} {n : Nat} (h : MAt H m cl n) (e : H p = none) : m ≠ p ∧ cl ≠ p := by
  obtain ⟨L, s, cs, j, h1, h2, h3, h4⟩ := h
  exact ⟨ne_of_none h1 e, ne_of_none h3 e⟩
theorem MAt.put {H : Hp} {m cl p : Addr} {n : Nat} {o : HO} (h : MAt H m cl n) (e : m ≠ p ∧ cl ≠ p) : MAt (upd H p o) m cl n := by
  obtain ⟨L, s, cs, j, h1, h2, h3, h4⟩ := h
  refine ⟨L, s, cs, j, ?_, h2, ?_, h4⟩
  · rw [upd_ne e.1]
    exact h1
  · rw [upd_ne e.2]
    exact h3
/-- what the draws leave: fresh stays fresh -/
theorem But.free {m p cl : Addr} {H H' : Hp} {n : Nat} (b : But m H H') (h : MAt H' m cl n) (e : H' p = none) : H p = none := by
  obtain ⟨kvs, hm⟩ := h.some
  cases q : H p with
  | none => rfl
  | some o =>
    by_cases hp : p = m
    · subst hp
      rw [hm] at e
      cases e
    · rw [b p o q hp] at e
      cases e
theorem But.tup {m p cl : Addr} {H H' : Hp} {n : Nat} {xs : List V} (b : But m H H') (h : MAt H m cl n) (e : H p = some (.tup xs)) : H' p = some (.tup xs) := by
  obtain ⟨kvs, hm⟩ := h.some
  exact b p _ e (ne_of e hm (by intro z; cases z))
theorem But.lst {m p cl : Addr} {H H' : Hp} {n : Nat} {xs : List V} (b : But m H H') (h : MAt H m cl n) (e : H p = some (.lst xs)) : H' p = some (.lst xs) := by
  obtain ⟨kvs, hm⟩ := h.some
  exact b p _ e (ne_of e hm (by intro z; cases z))
theorem But.seqL {K : PySem.W.Frag} {m p cl : Addr} {H H' : Hp} {n : Nat} {xs : List V} (b : But m H H') (h : MAt H m cl n) (e : SqL K H p xs) : SqL K H' p xs := by
  obtain ⟨kvs, hm⟩ := h.some
  rcases e with (e | ⟨o, e⟩) | e
  · exact Or.inl (Or.inl (b p _ e (ne_of e hm (by intro z; cases z))))
  · exact Or.inl (Or.inr ⟨o, b p _ e (ne_of e hm (by intro z; cases z))⟩)
  · exact Or.inr e
theorem But.seqT {K : PySem.W.Frag} {m p cl : Addr} {H H' : Hp} {n : Nat} {xs : List V} (b : But m H H') (h : MAt H m cl n) (e : SqT K H p xs) : SqT K H' p xs := by
  obtain ⟨kvs, hm⟩ := h.some
  rcases e with (e | ⟨o, e⟩) | e
  · exact Or.inl (Or.inl (b p _ e (ne_of e hm (by intro z; cases z))))
  · exact Or.inl (Or.inr ⟨o, b p _ e (ne_of e hm (by intro z; cases z))⟩)
  · exact Or.inr e
/-! ### tuples -/
theorem catA_any {K : PySem.W.Frag} {H : Hp} {Q : VK} {a b : Addr} {xs ys : List V} (ha : SqT K H a xs) (hb : SqT K H b ys) (hl : xs.length + ys.length ≤ 1000) (k : ∀ p H', Same H H' → SqT K H' p (xs ++ ys) → Q (.ref p) H') : rCatA K (.ref a) (.ref b) H Q := by
  refine ⟨a, b, xs, ys, rfl, rfl, ha, hb, small hl, fun e => ?_, fun _ e => ?_, fun _ _ p hp => k p _ (Same.new hp) (tup_of upd_same)⟩
  · subst e
    exact k b H (Same.refl H) hb
  · subst e
    exact k a H (Same.refl H) (by rw [List.append_nil]; exact ha)
theorem slA_any {K : PySem.W.Frag} {H : Hp} {Q : VK} {a : Addr} {xs : List V} {lo hi : Option Int} (ha : SqT K H a xs) (k : ∀ p H', Same H H' → SqT K H' p (cutV xs lo hi) → Q (.ref p) H') : rSlA K (.ref a) lo hi H Q := by
  refine ⟨a, xs, rfl, ha, fun e => ?_, fun _ p hp => k p _ (Same.new hp) (tup_of upd_same)⟩
  refine k a H (Same.refl H) ?_
  have e2 : cutV xs lo hi = xs := by
    unfold cutV
    rw [e.1, e.2, List.drop_zero, Nat.sub_zero, List.take_length]
  rw [e2]
  exact ha
/-! ### defs by their names -/
structure Df (K : PySem.W.Frag) (mg : Str → Option Value) (x : Str) (st : Stmt) (ps : List Str) : Prop where
  ex : ∃ (f : Addr) (fd : FuncData), Fun K x x st f fd ∧ mg x = some (.ref f) ∧ Binds K fd ps []
section
variable {P : Program} {w : World} {K : PySem.W.Frag} {mg : Str → Option Value} {base : Heap} {x : Str} {st : Stmt} {N ps : List Str} {k : Nat} {sp : Sp}
theorem Kl.by_body (D : Df K mg x st ps) (S : FnScope N ps (defScope st)) (len : ∀ vs H Q E, sp vs H Q E → vs.length = ps.length)
    (hb : ∀ (f : Addr) (cdv : Value) (A : Around) (outer : List Env) (s : Shared) (H : Hp) (vs : List V) (Q : VK) (E : XK), Room k (A.deeper (envOfC x (defScope st) s.heap.objs.size f cdv)) → sp vs H Q E →
      ∃ t, PSs (cxOf CX0 P w K mg base N x (defScope st) f cdv A outer s H E).nox (defBody st) t ∧ t { nx := fun _ H' => Q .non H', rt := Q } (start N vs) H) : Kl P w K mg base (k + 1) x sp := by
  obtain ⟨f, fd, F, hm, b⟩ := D.ex
  exact ⟨f, fd, ps, F.ok S len (hb f), hm, F.kp, b⟩
theorem Kg.by_body (D : Df K mg x st ps) (S : FnScope N ps (defScope st)) (len : ∀ vs H Q E, sp vs H Q E → vs.length = ps.length)
    (hb : ∀ (f : Addr) (cdv : Value) (A : Around) (outer : List Env) (s : Shared) (H : Hp) (vs : List V) (Q : VK) (E : XK), A.guards = some [] → Room k (A.deeper (envOfC x (defScope st) s.heap.objs.size f cdv)) → sp vs H Q E →
      ∃ t, PSs (cxOf CX0 P w K mg base N x (defScope st) f cdv A outer s H E).nox (defBody st) t ∧ t { nx := fun _ H' => Q .non H', rt := Q } (start N vs) H) : Kg P w K mg base (k + 1) x sp := by
  obtain ⟨f, fd, F, hm, b⟩ := D.ex
  exact ⟨f, fd, ps, FnG.by_body F S len (hb f), hm, F.kp, b⟩
theorem df_mk {h : Heap} {f : Addr} {oc : Value} {od an : Option Addr} {osl : Array (Option Value)} {kV doc pm cdv ct : Value} (X : K.In h) (G : h.Ns mainGlobals mg) (a : PySem.W.nsIn K mainGlobals x = some (some (.ref f)))
    (l : K.lookup f = some ⟨oc, od, .func (PySem.W.fnOf x x (defArgs st) (defBody st) (defScope st) .none kV doc pm an cdv ct), osl⟩) (c : PySem.W.codeIn K cdv x = true) (kp : PySem.W.keepIn K (.ref f) = true)
    (hb : ∀ (kV doc pm : Value) (an : Option Addr) (cdv ct : Value) (us : List Value), us.length = ps.length → bindArgs (PySem.W.fnOf x x (defArgs st) (defBody st) (defScope st) .none kV doc pm an cdv ct) ⟨us, []⟩ = pure (ps.zip us)) : Df K mg x st ps :=
  ⟨f, _, fun_mk l c kp, PySem.W.mg_of X G a, (fun_mk l c kp).binds hb⟩
theorem law_fd {h : Heap} {fa f : Addr} {j : Nat} {oc : Value} {od an : Option Addr} {osl : Array (Option Value)} {kV doc pm cdv ct : Value} (X : K.In h) (G : h.Ns mainGlobals mg) (hfa : mg "law" = some (.ref fa)) (a : PySem.W.nsIn K mainGlobals "law" = some (some (.ref f)))
    (l : K.lookup f = some ⟨oc, od, .func (PySem.W.fnOf "law" "law" (defArgs st) (defBody st) (defScope st) .none kV doc pm an cdv ct), osl⟩) (c : PySem.W.codeIn K cdv "law" = true) (kp : PySem.W.keepIn K (.ref f) = true)
    (hb : ∀ (kV doc pm : Value) (an : Option Addr) (cdv ct : Value) (us : List Value), us.length = 1 → bindArgs (PySem.W.fnOf "law" "law" (defArgs st) (defBody st) (defScope st) .none kV doc pm an cdv ct) ⟨us, []⟩ = pure ((["script"] : List Str).zip us))
    (go : ∀ fd, Fun K "law" "law" st fa fd → ∀ base : Heap, FnG P w K mg base j fa fd ["script"] sp) :
    ∃ fd : FuncData, (∀ (s : Shared) (u : Value), BindsTo s fd ⟨[u], []⟩ [("script", u)]) ∧ ∀ base : Heap, K.In base → base.Ns mainGlobals mg → FnG P w K mg base j fa fd ["script"] sp := by
  have e := hfa.symm.trans (PySem.W.mg_of X G a)
  cases e
  exact ⟨_, fun s u => .of_eq (hb kV doc pm an cdv ct [u] rfl), fun base _ _ => go _ (fun_mk l c kp) base⟩
end
end Gd
set_option linter.all false
/-! the mathematics: plain Lean -/
namespace K05M
def d3 (a b c d : Int) : Int := b * b * c * c - 4 * a * c ^ 3 - 4 * b ^ 3 * d - 27 * a * a * d * d + 18 * a * b * c * d
theorem b8x (a1 a2 a3 a4 a6 : Int) : (a1 * a1 + 4 * a2) * (a3 * a3 + 4 * a6) - (2 * a4 + a1 * a3) * (2 * a4 + a1 * a3) = 4 * (a1 * a1 * a6 + 4 * a2 * a6 - a1 * a3 * a4 + a2 * a3 * a3 - a4 * a4) := by grind
theorem discx (b2 b4 b6 b8 : Int) (h : b2 * b6 - b4 * b4 = 4 * b8) : d3 4 b2 (2 * b4) b6 = 16 * (9 * b2 * b4 * b6 - b2 * b2 * b8 - 8 * b4 * b4 * b4 - 27 * b6 * b6) := by
  unfold d3
  grind
theorem plainx (a b c : Int) : 9 * (0 * 0 + 4 * a) * (2 * b + 0 * 0) * (0 * 0 + 4 * c) - (0 * 0 + 4 * a) * (0 * 0 + 4 * a) * (0 * 0 * c + 4 * a * c - 0 * 0 * b + a * 0 * 0 - b * b) - 8 * (2 * b + 0 * 0) * (2 * b + 0 * 0) * (2 * b + 0 * 0) - 27 * (0 * 0 + 4 * c) * (0 * 0 + 4 * c) = 16 * d3 1 a b c := by
  unfold d3
  grind
theorem moved0 (A r : Int) : 9 * (4 * A + 12 * r) * (4 * A * r + 6 * r * r) * (4 * A * r * r + 4 * r * r * r) - (4 * A + 12 * r) * (4 * A + 12 * r) * (4 * A * r * r * r + 3 * r * r * r * r) - 8 * (4 * A * r + 6 * r * r) * (4 * A * r + 6 * r * r) * (4 * A * r + 6 * r * r) - 27 * (4 * A * r * r + 4 * r * r * r) * (4 * A * r * r + 4 * r * r * r) = 0 := by grind
end K05M
set_option Elab.async false
set_option linter.all false
set_option maxRecDepth 100000
set_option maxHeartbeats 4000000
namespace K05
open PySem PySem.Spec PyProof.Rows L2 Gd
def topS (i : Nat) : Stmt := PySem.Challenge.pw_pointsum_k05_curves_and_their_numbers.main.body.getD i (.Pass ⟨0, 0, 0, 0⟩)
/-- what the walk asks of the module's names -/
structure Tx (K : PySem.W.Frag) (mg : Str → Option Value) : Prop where
  gcd : mg "gcd" = some (.builtin "math.gcd")
  type : mg "type" = none
  int : mg "int" = none
  len : mg "len" = none
  isinstance : mg "isinstance" = none
  tuple : mg "tuple" = none
  all : mg "all" = none
  max : mg "max" = none
  min : mg "min" = none
  abs : mg "abs" = none
  range : mg "range" = none
  list : mg "list" = none
  repr : mg "repr" = none
  c_PLAIN_LIMIT : ∃ u, mg "PLAIN_LIMIT" = some u ∧ RelV (.int 10000) u
theorem iteN {c A B : Prop} [Decidable c] (h : ¬ c) (b : B) : if c then A else B := by
  rw [if_neg h]
  exact b
theorem iteY {c A B : Prop} [Decidable c] (h : c) (b : A) : if c then A else B := by
  rw [if_pos h]
  exact b
theorem tyx_tup {K : PySem.W.Frag} {H : Hp} {a : Addr} {xs : List V} (h : SqT K H a xs) : TyX K H (.ref a) (.type "tuple") := by
  rcases h with (h | ⟨o, h⟩) | ⟨o, ar, n, h1, h2, _⟩
  · exact .base (.tup h)
  · exact .fTuple h
  · exact .kTuple h1 (by assumption)
/-- the five numbers of a curve -/
structure Cv where
  a1 : Int
  a2 : Int
  a3 : Int
  a4 : Int
  a6 : Int
namespace Cv
variable (c : Cv)
def tup : List V := [.int c.a1, .int c.a2, .int c.a3, .int c.a4, .int c.a6]
def b2 : Int := c.a1 * c.a1 + 4 * c.a2
def b4 : Int := 2 * c.a4 + c.a1 * c.a3
def b6 : Int := c.a3 * c.a3 + 4 * c.a6
def b8 : Int := c.a1 * c.a1 * c.a6 + 4 * c.a2 * c.a6 - c.a1 * c.a3 * c.a4 + c.a2 * c.a3 * c.a3 - c.a4 * c.a4
def c4 : Int := c.b2 * c.b2 - 24 * c.b4
def c6 : Int := 36 * c.b2 * c.b4 - c.b2 * c.b2 * c.b2 - 216 * c.b6
def disc : Int := 9 * c.b2 * c.b4 * c.b6 - c.b2 * c.b2 * c.b8 - 8 * c.b4 * c.b4 * c.b4 - 27 * c.b6 * c.b6
def nums : List V := [.int c.b2, .int c.b4, .int c.b6, .int c.b8, .int c.c4, .int c.c6, .int c.disc]
structure Sm : Prop where
  h1 : B 20 c.a1
  h2 : B 20 c.a2
  h3 : B 20 c.a3
  h4 : B 20 c.a4
  h6 : B 20 c.a6
/-- a tuple that stands for it -/
def Is (xs : List V) : Prop := xs = c.tup ∨ ∃ a b d : Int, xs = [.int a, .int b, .int d] ∧ c = ⟨0, a, 0, b, d⟩
end Cv
local macro_rules | `(tactic| walk_at "bd") => `(tactic| (repeat (first | assumption | apply B.add | apply B.sub | apply B.mul | apply B.neg | exact B.lit (n := 12) (by decide))))
local macro_rules | `(tactic| walk_at "bu") => `(tactic| (apply B.up; walk_at "bd"; decide))
local macro_rules | `(tactic| walk_at "bnd") => `(tactic| (apply B.mulW; walk_at "bd"; decide))
section
variable {P : Program} {w : World} {K : PySem.W.Frag} {mg : Str → Option Value} {base : Heap}
/-! ### five -/
def sp_five (K : PySem.W.Frag) : Sp := fun vs H Q _ => ∃ (p : Addr) (xs : List V) (c : Cv), vs = [.ref p] ∧ SqT K H p xs ∧ c.Is xs ∧ ∀ H' t, Same H H' → SqT K H' t c.tup → Q (.ref t) H'
abbrev s_five : Stmt := topS 7
theorem sc_five : FnScope ["curve", "a", "b", "c"] ["curve"] (defScope s_five) := ⟨rfl, rfl, rfl, by decide +kernel, rfl, by decide +kernel, by decide +kernel⟩
theorem k_five (T : Tx K mg) (D : Df K mg "five" s_five ["curve"])  : Kl P w K mg base 1 "five" (sp_five K) := by
  have nd := sc_five.nd
  refine Kl.by_body D sc_five (fun vs H Q E h => ?_) (fun f cdv A outer s H vs Q E hr h => ?_)
  · obtain ⟨_, _, _, rfl, _⟩ := h
    rfl
  · obtain ⟨p, xs, c, rfl, hx, hc, q⟩ := h
    have hu1 := hu_of hr
    refine ⟨_, (pss_cons (ps_if (pt_cmpR op_eq (pe_callB call_len_seq (by rfl) T.len (by decide +kernel) (pa_cons (pv 0) pa_nil)) pe_int (nomark _)) (pss_cons (ps_asg (pv 0) (pg_tup rfl (pgs_cons (pg_name (i := 1) nd rfl (by first | exact Or.inl rfl | exact Or.inr rfl)) (pgs_cons (pg_name (i := 2) nd rfl (by first | exact Or.inl rfl | exact Or.inr rfl)) (pgs_cons (pg_name (i := 3) nd rfl (by first | exact Or.inl rfl | exact Or.inr rfl)) pgs_nil)))))
      (pss_one (ps_ret (pe_tup (pa_cons pe_int (pa_cons (pv 1) (pa_cons pe_int (pa_cons (pv 2) (pa_cons (pv 3) pa_nil))))))))) pss_nil)
      (pss_one (ps_ret (pv 0)))), ?_⟩
    refine ⟨.ref p, rfl, p, xs, rfl, .inr hx, rfl, _, rfl, ?_⟩
    rcases hc with rfl | ⟨a, b, d, rfl, rfl⟩
    · refine iteN (by simp [Cv.tup]) ?_
      exact ⟨.ref p, rfl, q H p (Same.refl H) hx⟩
    · refine iteY (by simp) ?_
      refine ⟨_, rfl, p, _, rfl, hx, rfl, _, _, rfl, _, _, rfl, _, _, rfl, rfl, _, rfl, _, rfl, _, rfl, (by show 5 ≤ sizeLine; decide), fun t nt => ?_⟩
      exact q _ t (Same.new nt) (tup_of upd_same)
/-! ### numbers_of -/
def sp_numbers_of (K : PySem.W.Frag) : Sp := fun vs H Q _ => ∃ (p : Addr) (xs : List V) (c : Cv), vs = [.ref p] ∧ SqT K H p xs ∧ c.Is xs ∧ c.Sm ∧ ∀ H' t, Same H H' → H t = none → H' t = some (.tup c.nums) → Q (.ref t) H'
abbrev s_numbers_of : Stmt := topS 11
theorem sc_numbers_of : FnScope ["curve", "a1", "a2", "a3", "a4", "a6", "b2", "b4", "b6", "b8", "c4", "c6", "d"] ["curve"] (defScope s_numbers_of) := ⟨rfl, rfl, rfl, by decide +kernel, rfl, by decide +kernel, by decide +kernel⟩
theorem k_numbers_of (T : Tx K mg) (D : Df K mg "numbers_of" s_numbers_of ["curve"]) (c_five : Kl P w K mg base 1 "five" (sp_five K)) : Kl P w K mg base 2 "numbers_of" (sp_numbers_of K) := by
  have nd := sc_numbers_of.nd
  refine Kl.by_body D sc_numbers_of (fun vs H Q E h => ?_) (fun f cdv A outer s H vs Q E hr h => ?_)
  · obtain ⟨_, _, _, rfl, _⟩ := h
    rfl
  · obtain ⟨p, xs, c, rfl, hx, hc, hm, q⟩ := h
    have hu1 := hu_of hr
    refine ⟨_, (pss_cons (ps_asg (pe_k c_five  hr (by decide) (by rfl) (pa_cons (pv 0) pa_nil)) (pg_tup rfl (pgs_cons (pg_name (i := 1) nd rfl (by first | exact Or.inl rfl | exact Or.inr rfl)) (pgs_cons (pg_name (i := 2) nd rfl (by first | exact Or.inl rfl | exact Or.inr rfl)) (pgs_cons (pg_name (i := 3) nd rfl (by first | exact Or.inl rfl | exact Or.inr rfl)) (pgs_cons (pg_name (i := 4) nd rfl (by first | exact Or.inl rfl | exact Or.inr rfl)) (pgs_cons (pg_name (i := 5) nd rfl (by first | exact Or.inl rfl | exact Or.inr rfl)) pgs_nil)))))))
      (pss_cons (ps_set (i := 6) nd rfl (by first | exact Or.inl rfl | exact Or.inr rfl) (pe_op op_add (pe_op op_mulW (pv 1) (pv 1)) (pe_op op_mul pe_int (pv 2))))
      (pss_cons (ps_set (i := 7) nd rfl (by first | exact Or.inl rfl | exact Or.inr rfl) (pe_op op_add (pe_op op_mul pe_int (pv 4)) (pe_op op_mulW (pv 1) (pv 3))))
      (pss_cons (ps_set (i := 8) nd rfl (by first | exact Or.inl rfl | exact Or.inr rfl) (pe_op op_add (pe_op op_mulW (pv 3) (pv 3)) (pe_op op_mul pe_int (pv 5))))
      (pss_cons (ps_set (i := 9) nd rfl (by first | exact Or.inl rfl | exact Or.inr rfl) (pe_op op_sub (pe_op op_add (pe_op op_sub (pe_op op_add (pe_op op_mulW (pe_op op_mulW (pv 1) (pv 1)) (pv 5)) (pe_op op_mulW (pe_op op_mul pe_int (pv 2)) (pv 5))) (pe_op op_mulW (pe_op op_mulW (pv 1) (pv 3)) (pv 4))) (pe_op op_mulW (pe_op op_mulW (pv 2) (pv 3)) (pv 3))) (pe_op op_mulW (pv 4) (pv 4))))
      (pss_cons (ps_set (i := 10) nd rfl (by first | exact Or.inl rfl | exact Or.inr rfl) (pe_op op_sub (pe_op op_mulW (pv 6) (pv 6)) (pe_op op_mul pe_int (pv 7))))
      (pss_cons (ps_set (i := 11) nd rfl (by first | exact Or.inl rfl | exact Or.inr rfl) (pe_op op_sub (pe_op op_sub (pe_op op_mulW (pe_op op_mul pe_int (pv 6)) (pv 7)) (pe_op op_mulW (pe_op op_mulW (pv 6) (pv 6)) (pv 6))) (pe_op op_mul pe_int (pv 8))))
      (pss_cons (ps_set (i := 12) nd rfl (by first | exact Or.inl rfl | exact Or.inr rfl) (pe_op op_sub (pe_op op_sub (pe_op op_sub (pe_op op_mulW (pe_op op_mulW (pe_op op_mul pe_int (pv 6)) (pv 7)) (pv 8)) (pe_op op_mulW (pe_op op_mulW (pv 6) (pv 6)) (pv 9))) (pe_op op_mulW (pe_op op_mulW (pe_op op_mul pe_int (pv 7)) (pv 7)) (pv 7))) (pe_op op_mulW (pe_op op_mul pe_int (pv 8)) (pv 8))))
      (pss_one (ps_ret (pe_tup (pa_cons (pv 6) (pa_cons (pv 7) (pa_cons (pv 8) (pa_cons (pv 9) (pa_cons (pv 10) (pa_cons (pv 11) (pa_cons (pv 12) pa_nil)))))))))))))))))), ?_⟩
    refine ⟨.ref p, rfl, p, xs, c, rfl, hx, hc, fun H1 t s1 ht => ?_⟩
    obtain ⟨h1, h2, h3, h4, h6⟩ := hm
    refine ⟨t, _, rfl, ht, rfl, _, _, rfl, _, _, rfl, _, _, rfl, _, _, rfl, _, _, rfl, rfl, ?_⟩
    have e2 : B 41 (Cv.b2 c) := by (unfold Cv.b2; walk_at "bu")
    have e4 : B 41 (Cv.b4 c) := by (unfold Cv.b4; walk_at "bu")
    have e6 : B 41 (Cv.b6 c) := by (unfold Cv.b6; walk_at "bu")
    have e8 : B 70 (Cv.b8 c) := by (unfold Cv.b8; walk_at "bu")
    show tSeq _ _ _ [some (V.ref p), some (V.int c.a1), some (V.int c.a2), some (V.int c.a3), some (V.int c.a4), some (V.int c.a6), none, none, none, none, none, none, none] _
    refine ⟨_, rfl, _, rfl, _, _, rfl, rfl, (by walk_at "bnd"), _, rfl, _, _, rfl, rfl, (Or.inl ⟨by decide, by decide⟩), _, _, rfl, rfl, ?_⟩
    show tSeq _ _ _ [some (V.ref p), some (V.int (c.a1)), some (V.int (c.a2)), some (V.int (c.a3)), some (V.int (c.a4)), some (V.int (c.a6)), some (V.int (c.b2)), none, none, none, none, none, none] _
    refine ⟨_, rfl, _, _, rfl, rfl, (Or.inl ⟨by decide, by decide⟩), _, rfl, _, rfl, _, _, rfl, rfl, (by walk_at "bnd"), _, _, rfl, rfl, ?_⟩
    show tSeq _ _ _ [some (V.ref p), some (V.int (c.a1)), some (V.int (c.a2)), some (V.int (c.a3)), some (V.int (c.a4)), some (V.int (c.a6)), some (V.int (c.b2)), some (V.int (c.b4)), none, none, none, none, none] _
    refine ⟨_, rfl, _, rfl, _, _, rfl, rfl, (by walk_at "bnd"), _, rfl, _, _, rfl, rfl, (Or.inl ⟨by decide, by decide⟩), _, _, rfl, rfl, ?_⟩
    show tSeq _ _ _ [some (V.ref p), some (V.int (c.a1)), some (V.int (c.a2)), some (V.int (c.a3)), some (V.int (c.a4)), some (V.int (c.a6)), some (V.int (c.b2)), some (V.int (c.b4)), some (V.int (c.b6)), none, none, none, none] _
    refine ⟨_, rfl, _, rfl, _, _, rfl, rfl, (by walk_at "bnd"), _, rfl, _, _, rfl, rfl, (by walk_at "bnd"), _, rfl, _, _, rfl, rfl, (Or.inl ⟨by decide, by decide⟩), _, rfl, _, _, rfl, rfl, (by walk_at "bnd"), _, _, rfl, rfl, _, rfl, _, rfl, _, _, rfl, rfl, (by walk_at "bnd"), _, rfl, _, _, rfl, rfl, (by walk_at "bnd"), _, _, rfl, rfl, _, rfl, _, rfl, _, _, rfl, rfl, (by walk_at "bnd"), _, rfl, _, _, rfl, rfl, (by walk_at "bnd"), _, _, rfl, rfl, _, rfl, _, rfl, _, _, rfl, rfl, (by walk_at "bnd"), _, _, rfl, rfl, ?_⟩
    show tSeq _ _ _ [some (V.ref p), some (V.int (c.a1)), some (V.int (c.a2)), some (V.int (c.a3)), some (V.int (c.a4)), some (V.int (c.a6)), some (V.int (c.b2)), some (V.int (c.b4)), some (V.int (c.b6)), some (V.int (c.b8)), none, none, none] _
    refine ⟨_, rfl, _, rfl, _, _, rfl, rfl, (by walk_at "bnd"), _, rfl, _, _, rfl, rfl, (Or.inl ⟨by decide, by decide⟩), _, _, rfl, rfl, ?_⟩
    show tSeq _ _ _ [some (V.ref p), some (V.int (c.a1)), some (V.int (c.a2)), some (V.int (c.a3)), some (V.int (c.a4)), some (V.int (c.a6)), some (V.int (c.b2)), some (V.int (c.b4)), some (V.int (c.b6)), some (V.int (c.b8)), some (V.int (c.c4)), none, none] _
    refine ⟨_, rfl, _, _, rfl, rfl, (Or.inl ⟨by decide, by decide⟩), _, rfl, _, _, rfl, rfl, (by walk_at "bnd"), _, rfl, _, rfl, _, _, rfl, rfl, (by walk_at "bnd"), _, rfl, _, _, rfl, rfl, (by walk_at "bnd"), _, _, rfl, rfl, _, rfl, _, _, rfl, rfl, (Or.inl ⟨by decide, by decide⟩), _, _, rfl, rfl, ?_⟩
    show tSeq _ _ _ [some (V.ref p), some (V.int (c.a1)), some (V.int (c.a2)), some (V.int (c.a3)), some (V.int (c.a4)), some (V.int (c.a6)), some (V.int (c.b2)), some (V.int (c.b4)), some (V.int (c.b6)), some (V.int (c.b8)), some (V.int (c.c4)), some (V.int (c.c6)), none] _
    refine ⟨_, rfl, _, _, rfl, rfl, (Or.inl ⟨by decide, by decide⟩), _, rfl, _, _, rfl, rfl, (by walk_at "bnd"), _, rfl, _, _, rfl, rfl, (by walk_at "bnd"), _, rfl, _, rfl, _, _, rfl, rfl, (by walk_at "bnd"), _, rfl, _, _, rfl, rfl, (by walk_at "bnd"), _, _, rfl, rfl, _, rfl, _, _, rfl, rfl, (Or.inl ⟨by decide, by decide⟩), _, rfl, _, _, rfl, rfl, (by walk_at "bnd"), _, rfl, _, _, rfl, rfl, (by walk_at "bnd"), _, _, rfl, rfl, _, rfl, _, _, rfl, rfl, (Or.inl ⟨by decide, by decide⟩), _, rfl, _, _, rfl, rfl, (by walk_at "bnd"), _, _, rfl, rfl, ?_⟩
    refine ⟨_, rfl, _, rfl, _, rfl, _, rfl, _, rfl, _, rfl, _, rfl, (by show 7 ≤ sizeLine; decide), fun t2 nt => ?_⟩
    exact q _ t2 (s1.trans (Same.new nt)) (s1.free nt) upd_same
end
end K05
set_option Elab.async false
set_option linter.all false
set_option maxRecDepth 100000
set_option maxHeartbeats 4000000
namespace K05
open PySem PySem.Spec PyProof.Rows L2 Gd
local macro_rules | `(tactic| walk_at "bd") => `(tactic| (repeat (first | assumption | apply B.add | apply B.sub | apply B.mul | apply B.neg | exact B.lit (n := 12) (by decide))))
local macro_rules | `(tactic| walk_at "bu") => `(tactic| (apply B.up; walk_at "bd"; decide))
local macro_rules | `(tactic| walk_at "bnd") => `(tactic| (apply B.mulW; walk_at "bd"; decide))
/-- // by any divisor but 0, below 2 ^ 9000 -/
def CDivAny (_ j : Int) : Prop := j ≠ 0 ∧ j.natAbs.log2 < 9000
theorem op_fdivAny {X : Cx} : OpR X (binaryOp .FloorDiv) (rI CDivAny fun i j => .int (i.fdiv j)) := opI fun _ _ _ _ _ _ _ hc q => floordiv_int hc.1 q (.inl (PyProof.noPylong_of_log2 hc.2))
/-- n / d in lowest terms -/
def sg (n d : Int) : Int := if d < 0 then -((Nat.gcd n.natAbs d.natAbs : Nat) : Int) else ((Nat.gcd n.natAbs d.natAbs : Nat) : Int)
theorem sg_ne {n d : Int} (h : d ≠ 0) : sg n d ≠ 0 := by
  have hp : 0 < Nat.gcd n.natAbs d.natAbs := Nat.gcd_pos_of_pos_right _ (by omega)
  unfold sg
  split <;> omega
theorem gcd_B {m : Nat} {n d : Int} (h : d ≠ 0) (hb : B m d) : B m ((Nat.gcd n.natAbs d.natAbs : Nat) : Int) := by
  unfold B at *
  have h1 : Nat.gcd n.natAbs d.natAbs ≤ d.natAbs := Nat.gcd_le_right _ (by omega)
  omega
theorem sg_B {m : Nat} {n d : Int} (h : d ≠ 0) (hb : B m d) : B m (sg n d) := by
  unfold sg
  split
  · exact (gcd_B h hb).neg
  · exact gcd_B h hb
theorem div_any {m : Nat} {i j : Int} (h : j ≠ 0) (hb : B m j) (hm : m ≤ 1900) : CDivAny i j := ⟨h, Nat.lt_of_lt_of_le (hb.log hm) (by decide)⟩
section
variable {P : Program} {w : World} {K : PySem.W.Frag} {mg : Str → Option Value} {base : Heap}
/-! ### is_whole -/
def sp_is_whole (K : PySem.W.Frag) : Sp := fun vs H Q _ => ∃ (x : V) (t : String), vs = [x] ∧ TyB K H x t ∧ Q (.bl (decide (t = "int"))) H
abbrev s_is_whole : Stmt := topS 2
theorem sc_is_whole : FnScope ["value"] ["value"] (defScope s_is_whole) := ⟨rfl, rfl, rfl, by decide +kernel, rfl, by decide +kernel, by decide +kernel⟩
theorem k_is_whole (T : Tx K mg) (D : Df K mg "is_whole" s_is_whole ["value"])  : Kl P w K mg base 1 "is_whole" (sp_is_whole K) := by
  have nd := sc_is_whole.nd
  refine Kl.by_body D sc_is_whole (fun vs H Q E h => ?_) (fun f cdv A outer s H vs Q E hr h => ?_)
  · obtain ⟨_, _, rfl, _⟩ := h
    rfl
  · obtain ⟨x, t, rfl, hx, q⟩ := h
    have hu1 := hu_of hr
    refine ⟨_, (pss_one (ps_ret (pe_cmpR op_isTy (pe_callTy call_type1 (by rfl) T.type (by decide +kernel) (pa_cons (pv 0) pa_nil)) (pe_bltn (v := .ty "int") (by rfl) T.int (by decide +kernel) rfl) (nomark _)))), ?_⟩
    exact ⟨x, rfl, x, t, rfl, hx, t, "int", rfl, rfl, q⟩
/-! ### lowest -/
def sp_lowest (K : PySem.W.Frag) : Sp := fun vs H Q _ => ∃ n d : Int, vs = [.int n, .int d] ∧ d ≠ 0 ∧ B 500 d ∧ ∀ t, H t = none → Q (.ref t) (upd H t (.tup [.int (n.fdiv (sg n d)), .int (d.fdiv (sg n d))]))
abbrev s_lowest : Stmt := topS 4
theorem sc_lowest : FnScope ["n", "d", "shared"] ["n", "d"] (defScope s_lowest) := ⟨rfl, rfl, rfl, by decide +kernel, rfl, by decide +kernel, by decide +kernel⟩
theorem k_lowest (T : Tx K mg) (D : Df K mg "lowest" s_lowest ["n", "d"])  : Kl P w K mg base 1 "lowest" (sp_lowest K) := by
  have nd := sc_lowest.nd
  refine Kl.by_body D sc_lowest (fun vs H Q E h => ?_) (fun f cdv A outer s H vs Q E hr h => ?_)
  · obtain ⟨_, _, rfl, _⟩ := h
    rfl
  · obtain ⟨n, d, rfl, hd, hb, q⟩ := h
    have hu1 := hu_of hr
    refine ⟨_, (pss_cons (ps_set (i := 2) nd rfl (by first | exact Or.inl rfl | exact Or.inr rfl) (pe_callBfun cr_gcd (by rfl) T.gcd (pa_cons (pv 0) (pa_cons (pv 1) pa_nil))))
      (pss_cons (ps_if (pt_cmpR op_lt (pv 1) pe_int (nomark _)) (pss_one (ps_set (i := 2) nd rfl (by first | exact Or.inl rfl | exact Or.inr rfl) (pe_un un_neg (pv 2)))) pss_nil)
      (pss_one (ps_ret (pe_tup (pa_cons (pe_op op_fdivAny (pv 0) (pv 2)) (pa_cons (pe_op op_fdivAny (pv 1) (pv 2)) pa_nil))))))), ?_⟩
    refine ⟨_, rfl, _, rfl, n, d, rfl, ?_⟩
    have h1 : sg n d ≠ 0 := sg_ne hd
    have h2 : CDivAny n (sg n d) := div_any h1 (sg_B hd hb) (by decide)
    have h3 : CDivAny d (sg n d) := div_any h1 (sg_B hd hb) (by decide)
    refine ⟨_, rfl, d, 0, rfl, rfl, _, rfl, ite2 (fun e => ?_) (fun e => ?_)⟩
    · have e' : d < 0 := of_decide_eq_true e
      have es : sg n d = -((Nat.gcd n.natAbs d.natAbs : Nat) : Int) := if_pos e'
      refine ⟨_, rfl, _, rfl, ?_⟩
      refine ⟨_, rfl, _, rfl, n, _, rfl, rfl, es ▸ h2, _, rfl, _, rfl, d, _, rfl, rfl, es ▸ h3, (by show 2 ≤ sizeLine; decide), fun t nt => ?_⟩
      rw [es] at q
      exact q t nt
    · have e' : ¬ d < 0 := fun z => e (decide_eq_true z)
      have es : sg n d = ((Nat.gcd n.natAbs d.natAbs : Nat) : Int) := if_neg e'
      refine ⟨_, rfl, _, rfl, n, _, rfl, rfl, es ▸ h2, _, rfl, _, rfl, d, _, rfl, rfl, es ▸ h3, (by show 2 ≤ sizeLine; decide), fun t nt => ?_⟩
      rw [es] at q
      exact q t nt
/-! ### j_of -/
theorem c4_B {c : Cv} (h : c.Sm) : B 90 c.c4 := by
  obtain ⟨h1, h2, h3, h4, h6⟩ := h
  have e2 : B 41 c.b2 := by (unfold Cv.b2; walk_at "bu")
  have e4 : B 41 c.b4 := by (unfold Cv.b4; walk_at "bu")
  unfold Cv.c4
  walk_at "bu"
theorem disc_B {c : Cv} (h : c.Sm) : B 300 c.disc := by
  obtain ⟨h1, h2, h3, h4, h6⟩ := h
  have e2 : B 41 c.b2 := by (unfold Cv.b2; walk_at "bu")
  have e4 : B 41 c.b4 := by (unfold Cv.b4; walk_at "bu")
  have e6 : B 41 c.b6 := by (unfold Cv.b6; walk_at "bu")
  have e8 : B 70 c.b8 := by (unfold Cv.b8; walk_at "bu")
  unfold Cv.disc
  walk_at "bu"
def sp_j_of (K : PySem.W.Frag) : Sp := fun vs H Q _ => ∃ (p : Addr) (c : Cv), vs = [.ref p] ∧ SqT K H p c.tup ∧ c.Sm ∧ c.disc ≠ 0 ∧
  ∀ H' t, Same H H' → H t = none → H' t = some (.tup [.int ((c.c4 * c.c4 * c.c4).fdiv (sg (c.c4 * c.c4 * c.c4) c.disc)), .int (c.disc.fdiv (sg (c.c4 * c.c4 * c.c4) c.disc))]) → Q (.ref t) H'
abbrev s_j_of : Stmt := topS 12
theorem sc_j_of : FnScope ["curve", "_", "c4", "d"] ["curve"] (defScope s_j_of) := ⟨rfl, rfl, rfl, by decide +kernel, rfl, by decide +kernel, by decide +kernel⟩
theorem k_j_of (T : Tx K mg) (D : Df K mg "j_of" s_j_of ["curve"]) (c_numbers_of : Kl P w K mg base 2 "numbers_of" (sp_numbers_of K)) (c_lowest : Kl P w K mg base 1 "lowest" (sp_lowest K)) : Kl P w K mg base 3 "j_of" (sp_j_of K) := by
  have nd := sc_j_of.nd
  refine Kl.by_body D sc_j_of (fun vs H Q E h => ?_) (fun f cdv A outer s H vs Q E hr h => ?_)
  · obtain ⟨_, _, rfl, _⟩ := h
    rfl
  · obtain ⟨p, c, rfl, hx, hm, h0, q⟩ := h
    have hu1 := hu_of hr
    refine ⟨_, (pss_cons (ps_asg (pe_k c_numbers_of  hr (by decide) (by rfl) (pa_cons (pv 0) pa_nil)) (pg_tup rfl (pgs_cons (pg_name (i := 1) nd rfl (by first | exact Or.inl rfl | exact Or.inr rfl)) (pgs_cons (pg_name (i := 1) nd rfl (by first | exact Or.inl rfl | exact Or.inr rfl)) (pgs_cons (pg_name (i := 1) nd rfl (by first | exact Or.inl rfl | exact Or.inr rfl)) (pgs_cons (pg_name (i := 1) nd rfl (by first | exact Or.inl rfl | exact Or.inr rfl)) (pgs_cons (pg_name (i := 2) nd rfl (by first | exact Or.inl rfl | exact Or.inr rfl)) (pgs_cons (pg_name (i := 1) nd rfl (by first | exact Or.inl rfl | exact Or.inr rfl)) (pgs_cons (pg_name (i := 3) nd rfl (by first | exact Or.inl rfl | exact Or.inr rfl)) pgs_nil)))))))))
      (pss_one (ps_ret (pe_k c_lowest  hr (by decide) (by rfl) (pa_cons (pe_op op_mulW (pe_op op_mulW (pv 2) (pv 2)) (pv 2)) (pa_cons (pv 3) pa_nil)))))), ?_⟩
    refine ⟨.ref p, rfl, p, _, c, rfl, hx, .inl rfl, hm, fun H1 t s1 _ ht => ?_⟩
    refine ⟨t, _, rfl, tup_of ht, rfl, _, _, rfl, _, _, rfl, _, _, rfl, _, _, rfl, _, _, rfl, _, _, rfl, _, _, rfl, rfl, ?_⟩
    refine sig [some (.ref p), some (.int c.c6), some (.int c.c4), some (.int c.disc)] rfl ?_
    have e := c4_B hm
    refine ⟨_, rfl, _, rfl, _, _, rfl, rfl, e.mulW e (by decide), _, rfl, _, _, rfl, rfl, (e.mul e).mulW e (by decide), _, rfl, _, _, rfl, h0, (disc_B hm).up (by decide), fun t2 nt => ?_⟩
    exact q _ t2 (s1.trans (Same.new nt)) (s1.free nt) upd_same
/-! ### are_whole -/
/-- no tuple -/
inductive NoTup (H : Hp) : V → Prop
  | non : NoTup H .non
  | bl (b : Bool) : NoTup H (.bl b)
  | int (i : Int) : NoTup H (.int i)
  | str (x : Str) : NoTup H (.str x)
  | lst {a : Addr} {xs : List V} (h : H a = some (.lst xs)) : NoTup H (.ref a)
theorem NoTup.tyx {K : PySem.W.Frag} {H : Hp} {v : V} (h : NoTup H v) : ∃ t, TyX K H v t ∧ PySem.W.kitOne K t (.type "tuple") = some false := by
  cases h with
  | non => exact ⟨_, .base .non, kit_ty (by decide +kernel)⟩
  | bl b => exact ⟨_, .base (.bl b), kit_ty (by decide +kernel)⟩
  | int i => exact ⟨_, .base (.int i), kit_ty (by decide +kernel)⟩
  | str x => exact ⟨_, .base (.str x), kit_ty (by decide +kernel)⟩
  | lst h => exact ⟨_, .base (.lst h), kit_ty (by decide +kernel)⟩
theorem NoTup.same {H H' : Hp} {v : V} (s : Same H H') (h : NoTup H v) : NoTup H' v := by
  cases h with
  | non => exact .non
  | bl b => exact .bl b
  | int i => exact .int i
  | str x => exact .str x
  | lst h => exact .lst (s _ _ h)
/-- what a value looks like as a tuple of n numbers -/
inductive Kd (K : PySem.W.Frag) (H : Hp) (v : V) (n : Int) : Bool → Prop
  | other : NoTup H v → Kd K H v n false
  | long (p : Addr) (xs : List V) : v = .ref p → SqT K H p xs → (xs.length : Int) ≠ n → Kd K H v n false
  | fits (p : Addr) (xs : List V) (tf : V → String) : v = .ref p → SqT K H p xs → (xs.length : Int) = n → xs.length ≤ 100 → (∀ x ∈ xs, TyB K H x (tf x)) → Kd K H v n (xs.all fun x => decide (tf x = "int"))
theorem TyB.same {K : PySem.W.Frag} {H H' : Hp} {x : V} {t : String} (s : Same H H') (h : TyB K H x t) : TyB K H' x t := by
  cases h with
  | non => exact .non
  | bl b => exact .bl b
  | int i => exact .int i
  | str x => exact .str x
  | byt b => exact .byt b
  | lst h => exact .lst (s.seq h)
  | tup h => exact .tup (Same.tup s h)
  | dK h => exact .dK (s _ _ h)
theorem Kd.same {K : PySem.W.Frag} {H H' : Hp} {v : V} {n : Int} {b : Bool} (s : Same H H') (h : Kd K H v n b) : Kd K H' v n b := by
  cases h with
  | other h0 => exact .other (h0.same s)
  | long p xs e hx hl => exact .long p xs e (Same.tup s hx) hl
  | fits p xs tf e hx hl hs ht => exact .fits p xs tf e (Same.tup s hx) hl hs fun x hm => TyB.same s (ht x hm)
/-- what is asked of a value as a tuple of so many -/
inductive Td (K : PySem.W.Frag) (H : Hp) (v : V) (n : Int) : Bool → Prop
  | other : NoTup H v → Td K H v n false
  | is (p : Addr) (xs : List V) : v = .ref p → SqT K H p xs → Td K H v n (decide ((xs.length : Int) = n))
def sp_is_tuple (K : PySem.W.Frag) : Sp := fun vs H Q _ => ∃ (v : V) (n : Int) (b : Bool), vs = [v, .int n] ∧ Td K H v n b ∧ Q (.bl b) H
abbrev s_is_tuple : Stmt := topS 3
theorem sc_is_tuple : FnScope ["value", "many"] ["value", "many"] (defScope s_is_tuple) := ⟨rfl, rfl, rfl, by decide +kernel, rfl, by decide +kernel, by decide +kernel⟩
theorem k_is_tuple (T : Tx K mg) (D : Df K mg "is_tuple" s_is_tuple ["value", "many"])  : Kl P w K mg base 1 "is_tuple" (sp_is_tuple K) := by
  have nd := sc_is_tuple.nd
  refine Kl.by_body D sc_is_tuple (fun vs H Q E h => ?_) (fun f cdv A outer s H vs Q E hr h => ?_)
  · obtain ⟨_, _, _, rfl, _⟩ := h
    rfl
  · obtain ⟨v, n, b, rfl, hk, q⟩ := h
    have hu1 := hu_of hr
    refine ⟨_, (pss_one (ps_ret (pe_and (pe_callB call_isi (by rfl) T.isinstance (by decide +kernel) (pa_cons (pv 0) (pa_cons (pe_bltn (v := .ty "tuple") (by rfl) T.tuple (by decide +kernel) rfl) pa_nil))) (pe_one (pe_cmpR op_eq (pe_callB call_len_seq (by rfl) T.len (by decide +kernel) (pa_cons (pv 0) pa_nil)) (pv 1) (nomark _)))))), ?_⟩
    cases hk with
    | other h0 =>
      obtain ⟨t, ht, hn⟩ := h0.tyx (K := K)
      refine ⟨v, rfl, v, .ty "tuple", t, .type "tuple", false, rfl, .ty _, ht, hn, _, rfl, iteF ?_⟩
      exact q
    | is p xs ev hx =>
      subst ev
      refine ⟨.ref p, rfl, .ref p, .ty "tuple", .type "tuple", .type "tuple", true, rfl, .ty _, tyx_tup hx, kit_ty (by decide +kernel), _, rfl, iteT ?_⟩
      refine ⟨.ref p, rfl, p, xs, rfl, .inr hx, _, rfl, rfl, ?_⟩
      rw [dec_int]
      exact q
def sp_are_whole (K : PySem.W.Frag) : Sp := fun vs H Q _ => ∃ (v : V) (n : Int) (b : Bool), vs = [v, .int n] ∧ Kd K H v n b ∧ ∀ H', Same H H' → Q (.bl b) H'
abbrev s_are_whole : Stmt := topS 8
theorem sc_are_whole : FnScope ["value", "many", "n"] ["value", "many"] (defScope s_are_whole) := ⟨rfl, rfl, rfl, by decide +kernel, rfl, by decide +kernel, by decide +kernel⟩
theorem k_are_whole (T : Tx K mg) (D : Df K mg "are_whole" s_are_whole ["value", "many"]) (c_is_tuple : Kl P w K mg base 1 "is_tuple" (sp_is_tuple K)) (c_is_whole : Kl P w K mg base 1 "is_whole" (sp_is_whole K)) : Kl P w K mg base 2 "are_whole" (sp_are_whole K) := by
  have nd := sc_are_whole.nd
  refine Kl.by_body D sc_are_whole (fun vs H Q E h => ?_) (fun f cdv A outer s H vs Q E hr h => ?_)
  · obtain ⟨_, _, _, rfl, _⟩ := h
    rfl
  · obtain ⟨v, n, b, rfl, hk, q⟩ := h
    have hu1 := hu_of hr
    refine ⟨_, (pss_one (ps_ret (pe_and (pe_k c_is_tuple  hr (by decide) (by rfl) (pa_cons (pv 0) (pa_cons (pv 1) pa_nil))) (pe_one (pe_callB (cr_all rfl) (by rfl) T.all (by decide +kernel) (pa_cons (pe_lc (own := [("n", 2)]) (g := gName 2) rfl nd (pi_tup (pv 0)) (blkOk_by (N := ["value", "many", "n"]) (sc := defScope s_are_whole) (by decide +kernel)) (fun _ _ _ _ _ => (pg_name (i := 2) nd rfl (by first | exact Or.inl rfl | exact Or.inr rfl))) (fun _ _ _ _ _ => pts_nil) (fun _ _ _ _ _ => (pe_k c_is_whole  hr (by decide) (by rfl) (pa_cons (pv 2) pa_nil)))) pa_nil)))))), ?_⟩
    cases hk with
    | other h0 =>
      refine ⟨v, rfl, _, rfl, v, n, false, rfl, .other h0, ?_⟩
      exact ⟨_, rfl, iteF (q H (Same.refl H))⟩
    | long p xs ev hx hl =>
      subst ev
      refine ⟨.ref p, rfl, _, rfl, .ref p, n, _, rfl, .is p xs rfl hx, ?_⟩
      refine ⟨_, rfl, ?_⟩
      refine iteN (by simp [hl]) ?_
      exact q H (Same.refl H)
    | fits p xs tf ev hx hl hs hty =>
      subst ev
      refine ⟨.ref p, rfl, _, rfl, .ref p, n, _, rfl, .is p xs rfl hx, ?_⟩
      refine ⟨_, rfl, ?_⟩
      refine iteY (by simp [hl]) ?_
      refine ⟨.ref p, rfl, p, rfl, ⟨_, hx⟩, fun D hD => ?_⟩
      refine lc_tup (K := K) (a := p) (xs := xs) (fun i H2 => Same H H2 ∧ H2 D = some (.lst ((xs.take i).map fun x => V.bl (decide (tf x = "int"))))) ⟨Same.new hD, upd_same⟩ (fun i H2 _ z => Same.tup z.1 hx) (fun i x H2 hi z => ?_) (fun H2 z => ?_)
      · refine ⟨rfl, x, rfl, x, tf x, rfl, TyB.same z.1 (hty x (List.mem_of_getElem? hi)), _, z.2, ?_, Same.put z.1 hD, ?_⟩
        · rw [List.length_map]
          exact small1000 (by rw [List.length_take]; omega)
        · rw [upd_same, List.take_add_one, hi, List.map_append]
          rfl
      · refine ⟨D, xs.map fun x => decide (tf x = "int"), rfl, .inl (.inl ?_), ?_⟩
        · rw [z.2, List.take_length, List.map_map]
          rfl
        · have e : (xs.map fun x => decide (tf x = "int")).all id = xs.all fun x => decide (tf x = "int") := by
            rw [List.all_map]
            rfl
          rw [e]
          exact q _ z.1
/-! ### is_curve, is_plain -/
def sp_is_curve (K : PySem.W.Frag) : Sp := fun vs H Q _ => ∃ (v : V) (b : Bool), vs = [v] ∧ (Kd K H v 5 false ∧ b = false ∨ ∃ (p : Addr) (c : Cv), v = .ref p ∧ SqT K H p c.tup ∧ c.Sm ∧ b = decide (c.disc ≠ 0)) ∧ ∀ H', Same H H' → Q (.bl b) H'
theorem kd_tup {H : Hp} {p : Addr} {xs : List V} {n : Int} (h : SqT K H p xs) (hl : (xs.length : Int) = n) (hs : xs.length ≤ 100) (hi : ∀ x ∈ xs, ∃ i, x = V.int i) : Kd K H (.ref p) n true := by
  have h1 := Kd.fits (n := n) p xs (fun _ => "int") rfl h hl hs fun x hx => by
    obtain ⟨i, rfl⟩ := hi x hx
    exact .int i
  have e : (xs.all fun _ => decide (("int" : String) = "int")) = true := by simp
  rw [e] at h1
  exact h1
theorem Cv.ints (c : Cv) : ∀ x ∈ c.tup, ∃ i, x = V.int i := by
  intro x hx
  unfold Cv.tup at hx
  simp only [List.mem_cons, List.not_mem_nil, or_false] at hx
  rcases hx with rfl | rfl | rfl | rfl | rfl <;> exact ⟨_, rfl⟩
abbrev s_is_curve : Stmt := topS 9
theorem sc_is_curve : FnScope ["value"] ["value"] (defScope s_is_curve) := ⟨rfl, rfl, rfl, by decide +kernel, rfl, by decide +kernel, by decide +kernel⟩
theorem k_is_curve (T : Tx K mg) (D : Df K mg "is_curve" s_is_curve ["value"]) (c_are_whole : Kl P w K mg base 2 "are_whole" (sp_are_whole K)) (c_numbers_of : Kl P w K mg base 2 "numbers_of" (sp_numbers_of K)) : Kl P w K mg base 3 "is_curve" (sp_is_curve K) := by
  have nd := sc_is_curve.nd
  refine Kl.by_body D sc_is_curve (fun vs H Q E h => ?_) (fun f cdv A outer s H vs Q E hr h => ?_)
  · obtain ⟨_, _, rfl, _⟩ := h
    rfl
  · obtain ⟨v, b, rfl, hk, q⟩ := h
    have hu1 := hu_of hr
    refine ⟨_, (pss_one (ps_ret (pe_and (pe_k c_are_whole  hr (by decide) (by rfl) (pa_cons (pv 0) (pa_cons pe_int pa_nil))) (pe_one (pe_cmpR op_ne (pe_ix ix_tup (pe_k c_numbers_of  hr (by decide) (by rfl) (pa_cons (pv 0) pa_nil)) pe_int (fun _ _ => rfl)) pe_int (nomark _)))))), ?_⟩
    rcases hk with ⟨hk, rfl⟩ | ⟨p, c, rfl, hx, hm, rfl⟩
    · refine ⟨v, rfl, v, 5, false, rfl, hk, fun H1 s1 => ⟨_, rfl, ?_⟩⟩
      exact iteF (q H1 s1)
    · refine ⟨.ref p, rfl, .ref p, 5, true, rfl, kd_tup hx rfl (by show 5 ≤ 100; decide) c.ints, fun H1 s1 => ⟨_, rfl, ?_⟩⟩
      refine ⟨.ref p, rfl, p, _, c, rfl, Same.tup s1 hx, .inl rfl, hm, fun H2 t s2 _ ht => ?_⟩
      refine ⟨t, _, 6, .int c.disc, rfl, rfl, tup_of ht, rfl, rfl, ?_⟩
      have e : (!decide (V.int c.disc = V.int 0)) = decide (c.disc ≠ 0) := by
        rw [dec_int]
        by_cases h : c.disc = 0
        · simp [h]
        · simp [h]
      rw [e]
      exact q H2 (s1.trans s2)
def pl (a b d : Int) : Cv := ⟨0, a, 0, b, d⟩
def sp_is_plain (K : PySem.W.Frag) : Sp := fun vs H Q _ => ∃ (v : V) (r : Bool), vs = [v] ∧ (Kd K H v 3 false ∧ r = false ∨ ∃ (p : Addr) (a b d : Int), v = .ref p ∧ SqT K H p [.int a, .int b, .int d] ∧ (pl a b d).Sm ∧ r = (decide (a.natAbs ≤ 10000 ∧ b.natAbs ≤ 10000 ∧ d.natAbs ≤ 10000) && decide ((pl a b d).disc ≠ 0))) ∧ ∀ H', Same H H' → Q (.bl r) H'
theorem abs_eq (i : Int) : (if i < 0 then -i else i) = (i.natAbs : Int) := by
  split <;> omega
abbrev s_is_plain : Stmt := topS 10
theorem sc_is_plain : FnScope ["value", "n"] ["value"] (defScope s_is_plain) := ⟨rfl, rfl, rfl, by decide +kernel, rfl, by decide +kernel, by decide +kernel⟩
theorem k_is_plain (T : Tx K mg) (D : Df K mg "is_plain" s_is_plain ["value"]) (c_are_whole : Kl P w K mg base 2 "are_whole" (sp_are_whole K)) (c_numbers_of : Kl P w K mg base 2 "numbers_of" (sp_numbers_of K)) : Kl P w K mg base 3 "is_plain" (sp_is_plain K) := by
  have nd := sc_is_plain.nd
  refine Kl.by_body D sc_is_plain (fun vs H Q E h => ?_) (fun f cdv A outer s H vs Q E hr h => ?_)
  · obtain ⟨_, _, rfl, _⟩ := h
    rfl
  · obtain ⟨v, r, rfl, hk, q⟩ := h
    have hu1 := hu_of hr
    refine ⟨_, (pss_cons (ps_if (PW.pt (pw_or (pt_not (pt_val (pe_k c_are_whole  hr (by decide) (by rfl) (pa_cons (pv 0) (pa_cons pe_int pa_nil))))) (pw_or1 (pt_cmpR op_gt (pe_callB (cr_max rfl) (by rfl) T.max (by decide +kernel) (pa_cons (pe_lc (own := [("n", 1)]) (g := gName 1) rfl nd (pi_tup (pv 0)) (blkOk_by (N := ["value", "n"]) (sc := defScope s_is_plain) (by decide +kernel)) (fun _ _ _ _ _ => (pg_name (i := 1) nd rfl (by first | exact Or.inl rfl | exact Or.inr rfl))) (fun _ _ _ _ _ => pts_nil) (fun _ _ _ _ _ => (pe_callB call_abs (by rfl) T.abs (by decide +kernel) (pa_cons (pv 1) pa_nil)))) pa_nil)) (pe_kon (by rfl) T.c_PLAIN_LIMIT) (nomark _))))) (pss_one (ps_ret pe_bl)) pss_nil)
      (pss_one (ps_ret (pe_cmpR op_ne (pe_ix ix_tup (pe_k c_numbers_of  hr (by decide) (by rfl) (pa_cons (pv 0) pa_nil)) pe_int (fun _ _ => rfl)) pe_int (nomark _))))), ?_⟩
    rcases hk with ⟨hk, rfl⟩ | ⟨p, a, b, d, rfl, hx, hm, rfl⟩
    · refine ⟨v, rfl, v, 3, false, rfl, hk, fun H1 s1 => ⟨_, rfl, ?_⟩⟩
      exact iteT (q H1 s1)
    · have hints : ∀ x ∈ [V.int a, V.int b, V.int d], ∃ i, x = V.int i := by
        intro x hx
        simp only [List.mem_cons, List.not_mem_nil, or_false] at hx
        rcases hx with rfl | rfl | rfl <;> exact ⟨_, rfl⟩
      refine ⟨.ref p, rfl, .ref p, 3, true, rfl, kd_tup hx rfl (by show 3 ≤ 100; decide) hints, fun H1 s1 => ⟨_, rfl, iteF ?_⟩⟩
      refine ⟨.ref p, rfl, p, rfl, ⟨_, Same.tup s1 hx⟩, fun D hD => ?_⟩
      have hD0 : H D = none := s1.free hD
      refine lc_tup (K := K) (a := p) (xs := [V.int a, V.int b, V.int d]) (fun i H2 => Same H H2 ∧ H2 D = some (.lst (([(a.natAbs : Int), (b.natAbs : Int), (d.natAbs : Int)].take i).map V.int))) ⟨Same.put s1 hD0, upd_same⟩ (fun i H2 _ z => Same.tup z.1 hx) (fun i x H2 hi z => ?_) (fun H2 z => ?_)
      · match i, hi with
        | 0, hi =>
          obtain rfl := Option.some.inj hi
          refine ⟨rfl, _, rfl, a, rfl, _, z.2, (by show 0 < sizeLine; decide), Same.put z.1 hD0, ?_⟩
          rw [abs_eq, upd_same]
          rfl
        | 1, hi =>
          obtain rfl := Option.some.inj hi
          refine ⟨rfl, _, rfl, b, rfl, _, z.2, (by show 1 < sizeLine; decide), Same.put z.1 hD0, ?_⟩
          rw [abs_eq, upd_same]
          rfl
        | 2, hi =>
          obtain rfl := Option.some.inj hi
          refine ⟨rfl, _, rfl, d, rfl, _, z.2, (by show 2 < sizeLine; decide), Same.put z.1 hD0, ?_⟩
          rw [abs_eq, upd_same]
          rfl
      · refine ⟨D, [(a.natAbs : Int), (b.natAbs : Int), (d.natAbs : Int)], rfl, .inl (.inl z.2), (by show 0 < 3; decide), fun m hm1 hm2 => ?_⟩
        have g : ∀ y ∈ [(a.natAbs : Int), (b.natAbs : Int), (d.natAbs : Int)], y ≤ m := hm2
        have ga := g a.natAbs (by simp)
        have gb := g b.natAbs (by simp)
        have gd := g d.natAbs (by simp)
        simp only [List.mem_cons, List.not_mem_nil, or_false] at hm1
        refine ⟨m, 10000, rfl, rfl, _, rfl, ite2 (fun e => ?_) (fun e => ?_)⟩
        · have e1 : 10000 < m := of_decide_eq_true e
          have e2 : decide (a.natAbs ≤ 10000 ∧ b.natAbs ≤ 10000 ∧ d.natAbs ≤ 10000) = false := decide_eq_false (by omega)
          rw [e2] at q
          exact q H2 z.1
        · have e1 : ¬ 10000 < m := fun z => e (decide_eq_true z)
          have e2 : decide (a.natAbs ≤ 10000 ∧ b.natAbs ≤ 10000 ∧ d.natAbs ≤ 10000) = true := decide_eq_true (by omega)
          rw [e2] at q
          refine ⟨.ref p, rfl, p, _, pl a b d, rfl, Same.tup z.1 hx, .inr ⟨a, b, d, rfl, rfl⟩, hm, fun H3 t s3 _ ht => ?_⟩
          refine ⟨t, _, 6, .int (pl a b d).disc, rfl, rfl, tup_of ht, rfl, rfl, ?_⟩
          have e : (!decide (V.int (pl a b d).disc = V.int 0)) = (true && decide ((pl a b d).disc ≠ 0)) := by
            rw [dec_int, Bool.true_and]
            by_cases h : (pl a b d).disc = 0
            · simp [h]
            · simp [h]
          rw [e]
          exact q H3 (z.1.trans s3)
end
end K05
set_option Elab.async false
set_option linter.all false
set_option maxRecDepth 100000
set_option maxHeartbeats 4000000
namespace K05
open PySem PySem.Spec PyProof.Rows L2 Gd K05M
local macro_rules | `(tactic| walk_at "bd") => `(tactic| (repeat (first | assumption | apply B.add | apply B.sub | apply B.mul | apply B.neg | exact B.lit (n := 12) (by decide))))
local macro_rules | `(tactic| walk_at "bu") => `(tactic| (apply B.up; walk_at "bd"; decide))
local macro_rules | `(tactic| walk_at "bnd") => `(tactic| (apply B.mulW; walk_at "bd"; decide))
local macro_rules | `(tactic| walk_at "pw") => `(tactic| exact B.up (n := 64) (by assumption) (by decide))
theorem tup3 {V0 : Type} : True := trivial
section
variable {P : Program} {w : World} {K : PySem.W.Frag} {mg : Str → Option Value} {base : Heap}
/-! ### the law's common factor -/
def sp_law_common (K : PySem.W.Frag) : Sp := fun vs H Q _ => ∃ a b : Int, vs = [.int a, .int b] ∧ B 500 a ∧ B 500 b ∧ Q (.int ((Nat.gcd a.natAbs b.natAbs : Nat) : Int)) H
theorem gcd_turn {x y : Int} (h1 : 0 ≤ x) (h2 : 0 ≤ y) (h0 : y ≠ 0) : 0 ≤ x - x.fdiv y * y ∧ (x - x.fdiv y * y).natAbs < y.natAbs ∧ Nat.gcd y.natAbs (x - x.fdiv y * y).natAbs = Nat.gcd x.natAbs y.natAbs := by
  have e : x - x.fdiv y * y = x % y := by
    rw [Int.fdiv_eq_ediv_of_nonneg x h2, Int.emod_def, Int.mul_comm]
  have h3 : 0 ≤ x % y := Int.emod_nonneg x h0
  have h4 : x % y < y := Int.emod_lt_of_pos x (by omega)
  rw [e]
  refine ⟨h3, by omega, ?_⟩
  have e2 : (x % y).natAbs = x.natAbs % y.natAbs := by
    rw [Int.natAbs_emod_of_nonneg h1]
  rw [e2, Nat.gcd_comm y.natAbs, ← Nat.gcd_rec y.natAbs x.natAbs, Nat.gcd_comm]
abbrev s__law_common : Stmt := topS 18
theorem sc__law_common : FnScope ["a", "b"] ["a", "b"] (defScope s__law_common) := ⟨rfl, rfl, rfl, by decide +kernel, rfl, by decide +kernel, by decide +kernel⟩
theorem k_law_common (T : Tx K mg) (D : Df K mg "_law_common" s__law_common ["a", "b"])  : Kl P w K mg base 1 "_law_common" (sp_law_common K) := by
  have nd := sc__law_common.nd
  refine Kl.by_body D sc__law_common (fun vs H Q E h => ?_) (fun f cdv A outer s H vs Q E hr h => ?_)
  · obtain ⟨_, _, rfl, _⟩ := h
    rfl
  · obtain ⟨a, b, rfl, ha, hb, q⟩ := h
    have hu1 := hu_of hr
    refine ⟨_, (pss_cons (ps_par (i := 0) (j := 1) (by rfl) nd rfl rfl (by decide) rfl rfl (pa_cons (pe_callB call_abs (by rfl) T.abs (by decide +kernel) (pa_cons (pv 0) pa_nil)) (pa_cons (pe_callB call_abs (by rfl) T.abs (by decide +kernel) (pa_cons (pv 1) pa_nil)) pa_nil)) (by rfl))
      (pss_cons (ps_while PassesOwn.never (pt_cmpR op_ne (pv 1) pe_int (nomark _)) (pss_one (ps_par (i := 0) (j := 1) (by rfl) nd rfl rfl (by decide) rfl rfl (pa_cons (pv 1) (pa_cons (pe_op op_sub (pv 0) (pe_op op_mulW (pe_op op_fdivAny (pv 0) (pv 1)) (pv 1))) pa_nil)) (by rfl))))
      (pss_one (ps_ret (pv 0))))), ?_⟩
    refine ⟨_, rfl, a, rfl, _, rfl, b, rfl, _, _, rfl, ?_⟩
    rw [abs_eq, abs_eq]
    first | refine sigN [some (.int ((a.natAbs : Int))), some (.int ((b.natAbs : Int)))] (by rfl) ?_ | refine sig [some (.int ((a.natAbs : Int))), some (.int ((b.natAbs : Int)))] (by rfl) ?_
    have na : B 500 (a.natAbs : Int) := by
      unfold B at *
      omega
    have nb : B 500 (b.natAbs : Int) := by
      unfold B at *
      omega
    refine while_by (fun σ H2 => ∃ x y : Int, σ = [some (.int x), some (.int y)] ∧ H2 = H ∧ 0 ≤ x ∧ 0 ≤ y ∧ Nat.gcd x.natAbs y.natAbs = Nat.gcd a.natAbs b.natAbs ∧ B 500 x ∧ B 500 y)
      (fun σ _ => match σ with | [_, some (.int y)] => y.natAbs | _ => 0) ⟨_, _, rfl, rfl, by omega, by omega, by rw [Int.natAbs_natCast, Int.natAbs_natCast], na, nb⟩ ?_ ?_
    · rintro σ H2 ⟨x, y, rfl, rfl, h1, h2, h3, h4, h5⟩
      refine ⟨_, rfl, rfl, _, rfl, ?_⟩
      rw [dec_int]
      by_cases h0 : y = 0
      · subst h0
        refine iteN (by simp) ?_
        refine ⟨_, rfl, ?_⟩
        rw [← h3] at q
        have e : ((Nat.gcd x.natAbs (0 : Int).natAbs : Nat) : Int) = x := by
          rw [show (0 : Int).natAbs = 0 from rfl, Nat.gcd_zero_right]
          omega
        rw [e] at q
        exact q
      · refine iteY (by simp [h0]) ?_
        obtain ⟨g1, g2, g3⟩ := gcd_turn h1 h2 h0
        have d1 : B 500 (x.fdiv y) := by
          rw [Int.fdiv_eq_ediv_of_nonneg x h2]
          have e1 : 0 ≤ x / y := Int.ediv_nonneg h1 h2
          have e2 : x / y ≤ x := Int.ediv_le_self y h1
          unfold B at *
          omega
        refine ⟨_, rfl, _, rfl, _, rfl, _, rfl, x, y, rfl, rfl, div_any h0 h5 (by decide), _, rfl, _, _, rfl, rfl, d1.mulW h5 (by decide), _, _, rfl, rfl, _, _, rfl, ?_⟩
        have g4 : B 500 (x - x.fdiv y * y) := by
          unfold B at *
          omega
        exact ⟨⟨_, _, rfl, rfl, h2, g1, g3.trans h3, h5, g4⟩, g2⟩
    · rintro σ H2 Q1 Q2 i ⟨v, hv, hs, k, e, z⟩
      exact ⟨v, hv, hs, k, e, i _ _ z⟩
/-! ### cut -/
def sp_law_cut (K : PySem.W.Frag) : Sp := fun vs H Q _ => ∃ n d : Int, vs = [.int n, .int d] ∧ d ≠ 0 ∧ B 500 n ∧ B 500 d ∧ ∀ t, H t = none → Q (.ref t) (upd H t (.tup [.int (n.fdiv (sg n d)), .int (d.fdiv (sg n d))]))
abbrev s__law_cut : Stmt := topS 19
theorem sc__law_cut : FnScope ["n", "d", "part"] ["n", "d"] (defScope s__law_cut) := ⟨rfl, rfl, rfl, by decide +kernel, rfl, by decide +kernel, by decide +kernel⟩
theorem k_law_cut (T : Tx K mg) (D : Df K mg "_law_cut" s__law_cut ["n", "d"]) (c_law_common : Kl P w K mg base 1 "_law_common" (sp_law_common K)) : Kl P w K mg base 2 "_law_cut" (sp_law_cut K) := by
  have nd := sc__law_cut.nd
  refine Kl.by_body D sc__law_cut (fun vs H Q E h => ?_) (fun f cdv A outer s H vs Q E hr h => ?_)
  · obtain ⟨_, _, rfl, _⟩ := h
    rfl
  · obtain ⟨n, d, rfl, h0, hn, hd, q⟩ := h
    have hu1 := hu_of hr
    refine ⟨_, (pss_cons (ps_set (i := 2) nd rfl (by first | exact Or.inl rfl | exact Or.inr rfl) (pe_k c_law_common  hr (by decide) (by rfl) (pa_cons (pv 0) (pa_cons (pv 1) pa_nil))))
      (pss_cons (ps_set (i := 2) nd rfl (by first | exact Or.inl rfl | exact Or.inr rfl) (pe_ifExp (pt_cmpR op_gt (pv 1) pe_int (nomark _)) (pv 2) (pe_un un_neg (pv 2))))
      (pss_one (ps_ret (pe_tup (pa_cons (pe_op op_fdivAny (pv 0) (pv 2)) (pa_cons (pe_op op_fdivAny (pv 1) (pv 2)) pa_nil))))))), ?_⟩
    refine ⟨_, rfl, _, rfl, n, d, rfl, hn, hd, ?_⟩
    have hs : sg n d ≠ 0 := sg_ne h0
    have c1 : CDivAny n (sg n d) := div_any hs (sg_B h0 hd) (by decide)
    have c2 : CDivAny d (sg n d) := div_any hs (sg_B h0 hd) (by decide)
    refine ⟨_, rfl, _, _, rfl, rfl, _, rfl, ite2 (fun e => ?_) (fun e => ?_)⟩
    · have e' : 0 < d := of_decide_eq_true e
      have es : sg n d = ((Nat.gcd n.natAbs d.natAbs : Nat) : Int) := if_neg (by omega)
      refine ⟨_, rfl, ?_⟩
      refine ⟨_, rfl, _, rfl, n, _, rfl, rfl, es ▸ c1, _, rfl, _, rfl, d, _, rfl, rfl, es ▸ c2, (by show 2 ≤ sizeLine; decide), fun t nt => ?_⟩
      rw [es] at q
      exact q t nt
    · have e' : ¬ 0 < d := fun z => e (decide_eq_true z)
      have es : sg n d = -((Nat.gcd n.natAbs d.natAbs : Nat) : Int) := if_pos (by omega)
      refine ⟨_, rfl, _, rfl, ?_⟩
      refine ⟨_, rfl, _, rfl, n, _, rfl, rfl, es ▸ c1, _, rfl, _, rfl, d, _, rfl, rfl, es ▸ c2, (by show 2 ≤ sizeLine; decide), fun t nt => ?_⟩
      rw [es] at q
      exact q t nt
/-! ### the discriminant of a cubic -/
def sp_law_cubic_disc (K : PySem.W.Frag) : Sp := fun vs H Q _ => ∃ a b c d : Int, vs = [.int a, .int b, .int c, .int d] ∧ B 44 a ∧ B 44 b ∧ B 44 c ∧ B 44 d ∧ Q (.int (d3 a b c d)) H
abbrev s__law_cubic_disc : Stmt := topS 20
theorem sc__law_cubic_disc : FnScope ["a", "b", "c", "d", "found"] ["a", "b", "c", "d"] (defScope s__law_cubic_disc) := ⟨rfl, rfl, rfl, by decide +kernel, rfl, by decide +kernel, by decide +kernel⟩
theorem k_law_cubic_disc (T : Tx K mg) (D : Df K mg "_law_cubic_disc" s__law_cubic_disc ["a", "b", "c", "d"])  : Kl P w K mg base 1 "_law_cubic_disc" (sp_law_cubic_disc K) := by
  have nd := sc__law_cubic_disc.nd
  refine Kl.by_body D sc__law_cubic_disc (fun vs H Q E h => ?_) (fun f cdv A outer s H vs Q E hr h => ?_)
  · obtain ⟨_, _, _, _, rfl, _⟩ := h
    rfl
  · obtain ⟨a, b, c, d, rfl, ha, hb, hc, hd, q⟩ := h
    have hu1 := hu_of hr
    refine ⟨_, (pss_cons (ps_set (i := 4) nd rfl (by first | exact Or.inl rfl | exact Or.inr rfl) (pe_op op_sub (pe_op op_sub (pe_op op_mulW (pe_op op_mulW (pe_op op_mulW (pv 1) (pv 1)) (pv 2)) (pv 2)) (pe_op op_mulW (pe_op op_mul pe_int (pv 0)) (pe_op op_pow (pv 2) pe_int))) (pe_op op_mulW (pe_op op_mul pe_int (pe_op op_pow (pv 1) pe_int)) (pv 3))))
      (pss_one (ps_ret (pe_op op_add (pe_op op_sub (pv 4) (pe_op op_mulW (pe_op op_mulW (pe_op op_mulW (pe_op op_mul pe_int (pv 0)) (pv 0)) (pv 3)) (pv 3))) (pe_op op_mulW (pe_op op_mulW (pe_op op_mulW (pe_op op_mul pe_int (pv 0)) (pv 1)) (pv 2)) (pv 3)))))), ?_⟩
    have p3 : B 133 (c ^ (3 : Int).toNat) := hc.pow 3
    have p4 : B 133 (b ^ (3 : Int).toNat) := hb.pow 3
    refine ⟨_, rfl, _, rfl, _, _, rfl, rfl, (by walk_at "bnd"), _, rfl, _, _, rfl, rfl, (by walk_at "bnd"), _, rfl, _, _, rfl, rfl, (by walk_at "bnd"), _, rfl, _, _, rfl, rfl, (Or.inl ⟨by decide, by decide⟩), _, rfl, _, _, rfl, rfl, ⟨by decide, by decide, by walk_at "pw"⟩, _, _, rfl, rfl, (by walk_at "bnd"), _, _, rfl, rfl, _, rfl, _, _, rfl, rfl, ⟨by decide, by decide, by walk_at "pw"⟩, _, _, rfl, rfl, (Or.inl ⟨by decide, by decide⟩), _, rfl, _, _, rfl, rfl, (by walk_at "bnd"), _, _, rfl, rfl, ?_⟩
    first | refine sigN [some (.int (a)), some (.int (b)), some (.int (c)), some (.int (d)), some (.int (b * b * c * c - 4 * a * c ^ 3 - 4 * b ^ 3 * d))] (by rfl) ?_ | refine sig [some (.int (a)), some (.int (b)), some (.int (c)), some (.int (d)), some (.int (b * b * c * c - 4 * a * c ^ 3 - 4 * b ^ 3 * d))] (by rfl) ?_
    refine ⟨_, rfl, _, rfl, _, _, rfl, rfl, (Or.inl ⟨by decide, by decide⟩), _, rfl, _, _, rfl, rfl, (by walk_at "bnd"), _, rfl, _, _, rfl, rfl, (by walk_at "bnd"), _, rfl, _, _, rfl, rfl, (by walk_at "bnd"), _, _, rfl, rfl, _, rfl, _, _, rfl, rfl, (Or.inl ⟨by decide, by decide⟩), _, rfl, _, _, rfl, rfl, (by walk_at "bnd"), _, rfl, _, _, rfl, rfl, (by walk_at "bnd"), _, rfl, _, _, rfl, rfl, (by walk_at "bnd"), _, _, rfl, rfl, ?_⟩
    exact q
/-! ### moved -/
def Cv.mv (c : Cv) (r s t : Int) : Cv := ⟨c.a1 + 2 * s, c.a2 + 3 * r - s * c.a1 - s * s, c.a3 + 2 * t + r * c.a1, c.a4 + 2 * c.a2 * r + 3 * r * r - s * c.a3 - c.a1 * (t + r * s) - 2 * s * t, c.a6 + c.a4 * r + c.a2 * r * r + r ^ 3 - t * (c.a3 + t + c.a1 * r)⟩
def sp_law_moved (K : PySem.W.Frag) : Sp := fun vs H Q _ => ∃ (p : Addr) (c : Cv) (r s t : Int), vs = [.ref p, .int r, .int s, .int t] ∧ SqT K H p c.tup ∧ B 5 c.a1 ∧ B 5 c.a2 ∧ B 5 c.a3 ∧ B 5 c.a4 ∧ B 5 c.a6 ∧ B 5 r ∧ B 5 s ∧ B 5 t ∧ ∀ H' u, Same H H' → H u = none → H' u = some (.tup (c.mv r s t).tup) → Q (.ref u) H'
abbrev s__law_moved : Stmt := topS 21
theorem sc__law_moved : FnScope ["five_v", "r", "s", "t", "a", "b", "c", "d", "e", "flat", "low", "last"] ["five_v", "r", "s", "t"] (defScope s__law_moved) := ⟨rfl, rfl, rfl, by decide +kernel, rfl, by decide +kernel, by decide +kernel⟩
theorem k_law_moved (T : Tx K mg) (D : Df K mg "_law_moved" s__law_moved ["five_v", "r", "s", "t"])  : Kl P w K mg base 1 "_law_moved" (sp_law_moved K) := by
  have nd := sc__law_moved.nd
  refine Kl.by_body D sc__law_moved (fun vs H Q E h => ?_) (fun f cdv A outer s H vs Q E hr h => ?_)
  · obtain ⟨_, _, _, _, _, rfl, _⟩ := h
    rfl
  · obtain ⟨p, c, r, s, t, rfl, hx, h1, h2, h3, h4, h6, hr', hs, ht, q⟩ := h
    have hu1 := hu_of hr
    refine ⟨_, (pss_cons (ps_asg (pv 0) (pg_tup rfl (pgs_cons (pg_name (i := 4) nd rfl (by first | exact Or.inl rfl | exact Or.inr rfl)) (pgs_cons (pg_name (i := 5) nd rfl (by first | exact Or.inl rfl | exact Or.inr rfl)) (pgs_cons (pg_name (i := 6) nd rfl (by first | exact Or.inl rfl | exact Or.inr rfl)) (pgs_cons (pg_name (i := 7) nd rfl (by first | exact Or.inl rfl | exact Or.inr rfl)) (pgs_cons (pg_name (i := 8) nd rfl (by first | exact Or.inl rfl | exact Or.inr rfl)) pgs_nil)))))))
      (pss_cons (ps_set (i := 9) nd rfl (by first | exact Or.inl rfl | exact Or.inr rfl) (pe_tup (pa_cons (pe_op op_add (pv 4) (pe_op op_mul pe_int (pv 2))) (pa_cons (pe_op op_sub (pe_op op_sub (pe_op op_add (pv 5) (pe_op op_mul pe_int (pv 1))) (pe_op op_mulW (pv 2) (pv 4))) (pe_op op_mulW (pv 2) (pv 2))) (pa_cons (pe_op op_add (pe_op op_add (pv 6) (pe_op op_mul pe_int (pv 3))) (pe_op op_mulW (pv 1) (pv 4))) pa_nil)))))
      (pss_cons (ps_set (i := 10) nd rfl (by first | exact Or.inl rfl | exact Or.inr rfl) (pe_op op_sub (pe_op op_add (pe_op op_add (pv 7) (pe_op op_mulW (pe_op op_mul pe_int (pv 5)) (pv 1))) (pe_op op_mulW (pe_op op_mul pe_int (pv 1)) (pv 1))) (pe_op op_mulW (pv 2) (pv 6))))
      (pss_cons (ps_set (i := 11) nd rfl (by first | exact Or.inl rfl | exact Or.inr rfl) (pe_op op_add (pe_op op_add (pe_op op_add (pv 8) (pe_op op_mulW (pv 7) (pv 1))) (pe_op op_mulW (pe_op op_mulW (pv 5) (pv 1)) (pv 1))) (pe_op op_pow (pv 1) pe_int)))
      (pss_cons (ps_set (i := 10) nd rfl (by first | exact Or.inl rfl | exact Or.inr rfl) (pe_op op_sub (pe_op op_sub (pv 10) (pe_op op_mulW (pv 4) (pe_op op_add (pv 3) (pe_op op_mulW (pv 1) (pv 2))))) (pe_op op_mulW (pe_op op_mul pe_int (pv 2)) (pv 3))))
      (pss_one (ps_ret (pe_op op_catT (pv 9) (pe_tup (pa_cons (pv 10) (pa_cons (pe_op op_sub (pv 11) (pe_op op_mulW (pv 3) (pe_op op_add (pe_op op_add (pv 6) (pv 3)) (pe_op op_mulW (pv 4) (pv 1))))) pa_nil))))))))))), ?_⟩
    refine ⟨.ref p, rfl, p, _, rfl, hx, rfl, _, _, rfl, _, _, rfl, _, _, rfl, _, _, rfl, _, _, rfl, rfl, ?_⟩
    first | refine sigN [some (.ref p), some (.int (r)), some (.int (s)), some (.int (t)), some (.int (c.a1)), some (.int (c.a2)), some (.int (c.a3)), some (.int (c.a4)), some (.int (c.a6)), none, none, none] (by rfl) ?_ | refine sig [some (.ref p), some (.int (r)), some (.int (s)), some (.int (t)), some (.int (c.a1)), some (.int (c.a2)), some (.int (c.a3)), some (.int (c.a4)), some (.int (c.a6)), none, none, none] (by rfl) ?_
    have r3 : B 16 (r ^ (3 : Int).toNat) := hr'.pow 3
    refine ⟨_, rfl, _, rfl, _, _, rfl, rfl, (Or.inl ⟨by decide, by decide⟩), _, _, rfl, rfl, _, rfl, _, rfl, _, _, rfl, rfl, (Or.inl ⟨by decide, by decide⟩), _, _, rfl, rfl, _, rfl, _, rfl, _, _, rfl, rfl, (by walk_at "bnd"), _, _, rfl, rfl, _, rfl, _, rfl, _, _, rfl, rfl, (by walk_at "bnd"), _, _, rfl, rfl, _, rfl, _, rfl, _, _, rfl, rfl, (Or.inl ⟨by decide, by decide⟩), _, _, rfl, rfl, _, rfl, _, rfl, _, _, rfl, rfl, (by walk_at "bnd"), _, _, rfl, rfl, (by show 3 ≤ sizeLine; decide), fun f nf => ?_⟩
    first | refine sigN [some (.ref p), some (.int (r)), some (.int (s)), some (.int (t)), some (.int (c.a1)), some (.int (c.a2)), some (.int (c.a3)), some (.int (c.a4)), some (.int (c.a6)), some (V.ref f), none, none] (by rfl) ?_ | refine sig [some (.ref p), some (.int (r)), some (.int (s)), some (.int (t)), some (.int (c.a1)), some (.int (c.a2)), some (.int (c.a3)), some (.int (c.a4)), some (.int (c.a6)), some (V.ref f), none, none] (by rfl) ?_
    refine ⟨_, rfl, _, rfl, _, _, rfl, rfl, (Or.inl ⟨by decide, by decide⟩), _, rfl, _, _, rfl, rfl, (by walk_at "bnd"), _, _, rfl, rfl, _, rfl, _, _, rfl, rfl, (Or.inl ⟨by decide, by decide⟩), _, rfl, _, _, rfl, rfl, (by walk_at "bnd"), _, _, rfl, rfl, _, rfl, _, rfl, _, _, rfl, rfl, (by walk_at "bnd"), _, _, rfl, rfl, ?_⟩
    first | refine sigN [some (.ref p), some (.int (r)), some (.int (s)), some (.int (t)), some (.int (c.a1)), some (.int (c.a2)), some (.int (c.a3)), some (.int (c.a4)), some (.int (c.a6)), some (V.ref f), some (.int (c.a4 + 2 * c.a2 * r + 3 * r * r - s * c.a3)), none] (by rfl) ?_ | refine sig [some (.ref p), some (.int (r)), some (.int (s)), some (.int (t)), some (.int (c.a1)), some (.int (c.a2)), some (.int (c.a3)), some (.int (c.a4)), some (.int (c.a6)), some (V.ref f), some (.int (c.a4 + 2 * c.a2 * r + 3 * r * r - s * c.a3)), none] (by rfl) ?_
    refine ⟨_, rfl, _, rfl, _, rfl, _, _, rfl, rfl, (by walk_at "bnd"), _, _, rfl, rfl, _, rfl, _, rfl, _, _, rfl, rfl, (by walk_at "bnd"), _, rfl, _, _, rfl, rfl, (by walk_at "bnd"), _, _, rfl, rfl, _, rfl, _, _, rfl, rfl, ⟨by decide, by decide, by walk_at "pw"⟩, _, _, rfl, rfl, ?_⟩
    first | refine sigN [some (.ref p), some (.int (r)), some (.int (s)), some (.int (t)), some (.int (c.a1)), some (.int (c.a2)), some (.int (c.a3)), some (.int (c.a4)), some (.int (c.a6)), some (V.ref f), some (.int (c.a4 + 2 * c.a2 * r + 3 * r * r - s * c.a3)), some (.int (c.a6 + c.a4 * r + c.a2 * r * r + r ^ 3))] (by rfl) ?_ | refine sig [some (.ref p), some (.int (r)), some (.int (s)), some (.int (t)), some (.int (c.a1)), some (.int (c.a2)), some (.int (c.a3)), some (.int (c.a4)), some (.int (c.a6)), some (V.ref f), some (.int (c.a4 + 2 * c.a2 * r + 3 * r * r - s * c.a3)), some (.int (c.a6 + c.a4 * r + c.a2 * r * r + r ^ 3))] (by rfl) ?_
    refine ⟨_, rfl, _, rfl, _, rfl, _, rfl, _, rfl, _, _, rfl, rfl, (by walk_at "bnd"), _, _, rfl, rfl, _, _, rfl, rfl, (by walk_at "bnd"), _, _, rfl, rfl, _, rfl, _, _, rfl, rfl, (Or.inl ⟨by decide, by decide⟩), _, rfl, _, _, rfl, rfl, (by walk_at "bnd"), _, _, rfl, rfl, ?_⟩
    first | refine sigN [some (.ref p), some (.int (r)), some (.int (s)), some (.int (t)), some (.int (c.a1)), some (.int (c.a2)), some (.int (c.a3)), some (.int (c.a4)), some (.int (c.a6)), some (V.ref f), some (.int (c.a4 + 2 * c.a2 * r + 3 * r * r - s * c.a3 - c.a1 * (t + r * s) - 2 * s * t)), some (.int (c.a6 + c.a4 * r + c.a2 * r * r + r ^ 3))] (by rfl) ?_ | refine sig [some (.ref p), some (.int (r)), some (.int (s)), some (.int (t)), some (.int (c.a1)), some (.int (c.a2)), some (.int (c.a3)), some (.int (c.a4)), some (.int (c.a6)), some (V.ref f), some (.int (c.a4 + 2 * c.a2 * r + 3 * r * r - s * c.a3 - c.a1 * (t + r * s) - 2 * s * t)), some (.int (c.a6 + c.a4 * r + c.a2 * r * r + r ^ 3))] (by rfl) ?_
    refine ⟨_, rfl, _, rfl, _, rfl, _, rfl, _, rfl, _, rfl, _, _, rfl, rfl, _, rfl, _, rfl, _, _, rfl, rfl, (by walk_at "bnd"), _, _, rfl, rfl, _, _, rfl, rfl, (by walk_at "bnd"), _, _, rfl, rfl, (by show 2 ≤ sizeLine; decide), fun g ng => ?_⟩
    have nfg : f ≠ g := ne_of_none upd_same ng
    refine ⟨f, g, [.int (c.mv r s t).a1, .int (c.mv r s t).a2, .int (c.mv r s t).a3], [.int (c.mv r s t).a4, .int (c.mv r s t).a6], rfl, rfl, tup_of ?_, tup_of upd_same, by simp, (by show 3 + 2 ≤ sizeLine; decide), fun z => ?_, fun _ u nu => ?_⟩
    · rw [upd_ne nfg, upd_same]
      rfl
    · cases z
    · have ng0 : H g = none := Same.free (Same.new nf) ng
      have nu0 : H u = none := Same.free (Same.put (Same.new nf) ng0) nu
      refine q _ u (Same.put (Same.put (Same.new nf) ng0) nu0) nu0 ?_
      rw [upd_same]
      rfl
/-! ### what is due -/
def sp_law_due (K : PySem.W.Frag) : Sp := fun vs H Q _ => ∃ (p : Addr) (c : Cv), vs = [.ref p] ∧ SqT K H p c.tup ∧ c.Sm ∧ ∀ H' t, Same H H' → H t = none → H' t = some (.tup c.nums) → Q (.ref t) H'
theorem due_b8 (c : Cv) : (c.b2 * c.b6 - c.b4 * c.b4) / 4 = c.b8 := by
  have e : c.b2 * c.b6 - c.b4 * c.b4 = 4 * c.b8 := b8x c.a1 c.a2 c.a3 c.a4 c.a6
  rw [e]
  exact Int.mul_ediv_cancel_left _ (by decide)
theorem due_disc (c : Cv) : d3 4 c.b2 (2 * c.b4) c.b6 / 16 = c.disc := by
  have e : d3 4 c.b2 (2 * c.b4) c.b6 = 16 * c.disc := discx _ _ _ c.b8 (b8x c.a1 c.a2 c.a3 c.a4 c.a6)
  rw [e]
  exact Int.mul_ediv_cancel_left _ (by decide)
theorem due_c6 (c : Cv) : 36 * c.b2 * c.b4 - c.b2 ^ 3 - 216 * c.b6 = c.c6 := by
  unfold Cv.c6
  grind
abbrev s__law_due : Stmt := topS 22
theorem sc__law_due : FnScope ["five_v", "a", "b", "c", "d", "e", "b2", "b4", "b6", "disc", "c4", "c6"] ["five_v"] (defScope s__law_due) := ⟨rfl, rfl, rfl, by decide +kernel, rfl, by decide +kernel, by decide +kernel⟩
theorem k_law_due (T : Tx K mg) (D : Df K mg "_law_due" s__law_due ["five_v"]) (c_law_cubic_disc : Kl P w K mg base 1 "_law_cubic_disc" (sp_law_cubic_disc K)) : Kl P w K mg base 2 "_law_due" (sp_law_due K) := by
  have nd := sc__law_due.nd
  refine Kl.by_body D sc__law_due (fun vs H Q E h => ?_) (fun f cdv A outer s H vs Q E hr h => ?_)
  · obtain ⟨_, _, rfl, _⟩ := h
    rfl
  · obtain ⟨p, c, rfl, hx, ⟨h1, h2, h3, h4, h6⟩, q⟩ := h
    have hu1 := hu_of hr
    refine ⟨_, (pss_cons (ps_asg (pv 0) (pg_tup rfl (pgs_cons (pg_name (i := 1) nd rfl (by first | exact Or.inl rfl | exact Or.inr rfl)) (pgs_cons (pg_name (i := 2) nd rfl (by first | exact Or.inl rfl | exact Or.inr rfl)) (pgs_cons (pg_name (i := 3) nd rfl (by first | exact Or.inl rfl | exact Or.inr rfl)) (pgs_cons (pg_name (i := 4) nd rfl (by first | exact Or.inl rfl | exact Or.inr rfl)) (pgs_cons (pg_name (i := 5) nd rfl (by first | exact Or.inl rfl | exact Or.inr rfl)) pgs_nil)))))))
      (pss_cons (ps_par3 (i := 6) (j := 7) (l := 8) (by rfl) nd rfl rfl rfl (by decide) (by decide) (by decide) rfl rfl rfl (pa_cons (pe_op op_add (pe_op op_mulW (pv 1) (pv 1)) (pe_op op_mul pe_int (pv 2))) (pa_cons (pe_op op_add (pe_op op_mul pe_int (pv 4)) (pe_op op_mulW (pv 1) (pv 3))) (pa_cons (pe_op op_add (pe_op op_mulW (pv 3) (pv 3)) (pe_op op_mul pe_int (pv 5))) pa_nil))) (by rfl))
      (pss_cons (ps_set (i := 9) nd rfl (by first | exact Or.inl rfl | exact Or.inr rfl) (pe_k c_law_cubic_disc  hr (by decide) (by rfl) (pa_cons pe_int (pa_cons (pv 6) (pa_cons (pe_op op_mul pe_int (pv 7)) (pa_cons (pv 8) pa_nil))))))
      (pss_cons (ps_par (i := 10) (j := 11) (by rfl) nd rfl rfl (by decide) rfl rfl (pa_cons (pe_op op_sub (pe_op op_mulW (pv 6) (pv 6)) (pe_op op_mul pe_int (pv 7))) (pa_cons (pe_op op_sub (pe_op op_sub (pe_op op_mulW (pe_op op_mul pe_int (pv 6)) (pv 7)) (pe_op op_pow (pv 6) pe_int)) (pe_op op_mul pe_int (pv 8))) pa_nil)) (by rfl))
      (pss_one (ps_ret (pe_tup (pa_cons (pv 6) (pa_cons (pv 7) (pa_cons (pv 8) (pa_cons (pe_op op_fdiv (pe_op op_sub (pe_op op_mulW (pv 6) (pv 8)) (pe_op op_mulW (pv 7) (pv 7))) pe_int) (pa_cons (pv 10) (pa_cons (pv 11) (pa_cons (pe_op op_fdiv (pv 9) pe_int) pa_nil)))))))))))))), ?_⟩
    have e2 : B 43 c.b2 := by (unfold Cv.b2; walk_at "bu")
    have e4 : B 43 c.b4 := by (unfold Cv.b4; walk_at "bu")
    have e6 : B 43 c.b6 := by (unfold Cv.b6; walk_at "bu")
    have l2 : B 2 (2 : Int) := B.lit (by decide)
    refine ⟨.ref p, rfl, p, _, rfl, hx, rfl, _, _, rfl, _, _, rfl, _, _, rfl, _, _, rfl, _, _, rfl, rfl, ?_⟩
    first | refine sigN [some (.ref p), some (.int (c.a1)), some (.int (c.a2)), some (.int (c.a3)), some (.int (c.a4)), some (.int (c.a6)), none, none, none, none, none, none] (by rfl) ?_ | refine sig [some (.ref p), some (.int (c.a1)), some (.int (c.a2)), some (.int (c.a3)), some (.int (c.a4)), some (.int (c.a6)), none, none, none, none, none, none] (by rfl) ?_
    refine ⟨_, rfl, _, rfl, _, _, rfl, rfl, (by walk_at "bnd"), _, rfl, _, _, rfl, rfl, (Or.inl ⟨by decide, by decide⟩), _, _, rfl, rfl, _, rfl, _, _, rfl, rfl, (Or.inl ⟨by decide, by decide⟩), _, rfl, _, rfl, _, _, rfl, rfl, (by walk_at "bnd"), _, _, rfl, rfl, _, rfl, _, rfl, _, _, rfl, rfl, (by walk_at "bnd"), _, rfl, _, _, rfl, rfl, (Or.inl ⟨by decide, by decide⟩), _, _, rfl, rfl, _, _, _, rfl, ?_⟩
    first | refine sigN [some (.ref p), some (.int (c.a1)), some (.int (c.a2)), some (.int (c.a3)), some (.int (c.a4)), some (.int (c.a6)), some (.int (c.b2)), some (.int (c.b4)), some (.int (c.b6)), none, none, none] (by rfl) ?_ | refine sig [some (.ref p), some (.int (c.a1)), some (.int (c.a2)), some (.int (c.a3)), some (.int (c.a4)), some (.int (c.a6)), some (.int (c.b2)), some (.int (c.b4)), some (.int (c.b6)), none, none, none] (by rfl) ?_
    have e24 : B 44 (2 * c.b4) := by
      unfold B at *
      omega
    refine ⟨_, rfl, _, rfl, _, _, rfl, rfl, (Or.inl ⟨by decide, by decide⟩), _, rfl, 4, c.b2, 2 * c.b4, c.b6, rfl, B.lit (by decide), e2.up (by decide), e24, e6.up (by decide), ?_⟩
    first | refine sigN [some (.ref p), some (.int (c.a1)), some (.int (c.a2)), some (.int (c.a3)), some (.int (c.a4)), some (.int (c.a6)), some (.int (c.b2)), some (.int (c.b4)), some (.int (c.b6)), some (.int (d3 4 c.b2 (2 * c.b4) c.b6)), none, none] (by rfl) ?_ | refine sig [some (.ref p), some (.int (c.a1)), some (.int (c.a2)), some (.int (c.a3)), some (.int (c.a4)), some (.int (c.a6)), some (.int (c.b2)), some (.int (c.b4)), some (.int (c.b6)), some (.int (d3 4 c.b2 (2 * c.b4) c.b6)), none, none] (by rfl) ?_
    refine ⟨_, rfl, _, rfl, _, _, rfl, rfl, (by walk_at "bnd"), _, rfl, _, _, rfl, rfl, (Or.inl ⟨by decide, by decide⟩), _, _, rfl, rfl, _, rfl, _, _, rfl, rfl, (Or.inl ⟨by decide, by decide⟩), _, rfl, _, _, rfl, rfl, (by walk_at "bnd"), _, rfl, _, _, rfl, rfl, ⟨by decide, by decide, by walk_at "pw"⟩, _, _, rfl, rfl, _, rfl, _, _, rfl, rfl, (Or.inl ⟨by decide, by decide⟩), _, _, rfl, rfl, _, _, rfl, ?_⟩
    first | refine sigN [some (.ref p), some (.int (c.a1)), some (.int (c.a2)), some (.int (c.a3)), some (.int (c.a4)), some (.int (c.a6)), some (.int (c.b2)), some (.int (c.b4)), some (.int (c.b6)), some (.int (d3 4 c.b2 (2 * c.b4) c.b6)), some (.int (c.c4)), some (.int (36 * c.b2 * c.b4 - c.b2 ^ 3 - 216 * c.b6))] (by rfl) ?_ | refine sig [some (.ref p), some (.int (c.a1)), some (.int (c.a2)), some (.int (c.a3)), some (.int (c.a4)), some (.int (c.a6)), some (.int (c.b2)), some (.int (c.b4)), some (.int (c.b6)), some (.int (d3 4 c.b2 (2 * c.b4) c.b6)), some (.int (c.c4)), some (.int (36 * c.b2 * c.b4 - c.b2 ^ 3 - 216 * c.b6))] (by rfl) ?_
    refine ⟨_, rfl, _, rfl, _, rfl, _, rfl, _, rfl, _, _, rfl, rfl, (by walk_at "bnd"), _, rfl, _, rfl, _, _, rfl, rfl, (by walk_at "bnd"), _, _, rfl, rfl, _, _, rfl, rfl, ⟨by decide, by decide⟩, _, rfl, _, rfl, _, rfl, _, _, rfl, rfl, ⟨by decide, by decide⟩, (by show 7 ≤ sizeLine; decide), fun u nu => ?_⟩
    refine q _ u (Same.new nu) nu ?_
    rw [upd_same]
    show some (HO.tup [.int c.b2, .int c.b4, .int c.b6, .int ((c.b2 * c.b6 - c.b4 * c.b4) / 4), .int c.c4, .int (36 * c.b2 * c.b4 - c.b2 ^ 3 - 216 * c.b6), .int (d3 4 c.b2 (2 * c.b4) c.b6 / 16)]) = some (HO.tup c.nums)
    rw [due_b8, due_disc, due_c6]
    rfl
end
end K05
set_option Elab.async false
set_option linter.all false
set_option maxRecDepth 100000
set_option maxHeartbeats 4000000
namespace K05
open PySem PySem.Spec PyProof.Rows L2 Gd K05M
section
variable {P : Program} {w : World} {K : PySem.W.Frag} {mg : Str → Option Value} {base : Heap}
/-! ### one draw -/
def sp_law_draw (K : PySem.W.Frag) : Sp := fun vs H Q _ => ∃ (m cl : Addr) (b : Int) (n : Nat), vs = [.ref m, .int b] ∧ 0 < b ∧ b < 1073741824 ∧ n ≤ 1000000 ∧ MAt H m cl n ∧ ∀ H' r, But m H H' → MAt H' m cl (n + 1) → 0 ≤ r → r < b → Q (.int r) H'
abbrev s__law_draw : Stmt := topS 15
theorem sc__law_draw : FnScope ["m", "below", "found", "spot", "cells", "extra", "cell", "blend"] ["m", "below"] (defScope s__law_draw) := ⟨rfl, rfl, rfl, by decide +kernel, rfl, by decide +kernel, by decide +kernel⟩
theorem k_law_draw (T : Tx K mg) (D : Df K mg "_law_draw" s__law_draw ["m", "below"])  : Kl P w K mg base 1 "_law_draw" (sp_law_draw K) := by
  have nd := sc__law_draw.nd
  refine Kl.by_body D sc__law_draw (fun vs H Q E h => ?_) (fun f cdv A outer s H vs Q E hr h => ?_)
  · obtain ⟨_, _, _, _, rfl, _⟩ := h
    rfl
  · obtain ⟨m, c, b, n, rfl, hb0, hb1, hn, ⟨L, s0, cs, k, hm, hk, hc, hl⟩, q⟩ := h
    have hu1 := hu_of hr
    refine ⟨_, (pss_cons (ps_if (pt_cmpR op_gt (pe_dget hu1 (pv 0) pe_str (fun _ _ => rfl)) pe_int (nomark _)) (pss_cons (ps_set (i := 2) nd rfl (by first | exact Or.inl rfl | exact Or.inr rfl) (pe_op op_mod (pe_callTy call_intI (by rfl) T.int (by decide +kernel) (pa_cons (pe_dget hu1 (pv 0) pe_str (fun _ _ => rfl)) pa_nil)) (pv 1)))
      (pss_cons (ps_dput hu1 (pv 0) pe_str (pe_op op_fdivN (pe_dget hu1 (pv 0) pe_str (fun _ _ => rfl)) (pv 1)) rfl)
      (pss_one (ps_ret (pv 2))))) pss_nil)
      (pss_cons (ps_set (i := 3) nd rfl (by first | exact Or.inl rfl | exact Or.inr rfl) (pe_dget hu1 (pv 0) pe_str (fun _ _ => rfl)))
      (pss_cons (ps_dput hu1 (pv 0) pe_str (pe_op op_add (pv 3) pe_int) rfl)
      (pss_cons (ps_par (i := 4) (j := 5) (by rfl) nd rfl rfl (by decide) rfl rfl (pa_cons (pe_dget hu1 (pv 0) pe_str (fun _ _ => rfl)) (pa_cons (pe_op op_add (pe_dget hu1 (pv 0) pe_str (fun _ _ => rfl)) (pe_op op_mulW (pe_op op_mul pe_int (pv 3)) (pv 3))) pa_nil)) (by rfl))
      (pss_cons (ps_set (i := 6) nd rfl (by first | exact Or.inl rfl | exact Or.inr rfl) (pe_ix ix_list (pv 4) (pe_op op_mod (pe_callTy call_intI (by rfl) T.int (by decide +kernel) (pa_cons (pv 3) pa_nil)) (pe_callB call_len_seq (by rfl) T.len (by decide +kernel) (pa_cons (pv 4) pa_nil))) (fun _ _ => rfl)))
      (pss_cons (ps_set (i := 7) nd rfl (by first | exact Or.inl rfl | exact Or.inr rfl) (pe_op op_mod (pe_callTy call_intI (by rfl) T.int (by decide +kernel) (pa_cons (pe_op op_add (pe_op op_mul (pv 6) (pe_op op_add (pe_op op_mul pe_int (pv 3)) pe_int)) (pv 5)) pa_nil)) pe_int))
      (pss_cons (ps_set (i := 7) nd rfl (by first | exact Or.inl rfl | exact Or.inr rfl) (pe_op op_mod (pe_callTy call_intI (by rfl) T.int (by decide +kernel) (pa_cons (pe_op op_add (pe_op op_add (pe_op op_mul (pv 7) (pv 7)) (pe_op op_mul pe_int (pv 3))) (pe_dget hu1 (pv 0) pe_str (fun _ _ => rfl))) pa_nil)) pe_int))
      (pss_one (ps_ret (pe_op op_mod (pe_op op_fdiv (pe_op op_mod (pe_callTy call_intI (by rfl) T.int (by decide +kernel) (pa_cons (pe_op op_add (pe_op op_mul (pv 7) pe_int) (pv 3)) pa_nil)) pe_int) pe_int) (pv 1))))))))))), ?_⟩
    have gL : DGet H m (.str "left") (some (.int L)) := m4_left (L := L) ▸ DGet.k (k := Sum.inr "left") hm
    have ncm : c ≠ m := ne_of hc hm (by intro z; cases z)
    refine ⟨_, rfl, m, _, rfl, gL, _, _, rfl, rfl, _, rfl, ite2 (fun e => ?_) (fun e => ?_)⟩
    · refine ⟨_, rfl, m, _, rfl, gL, _, rfl, _, rfl, _, _, rfl, rfl, hb0, ?_⟩
      refine ⟨_, rfl, m, _, rfl, gL, _, rfl, _, _, rfl, rfl, ⟨by omega, by omega⟩, _, rfl, m, _, rfl, DPut.k (k := Sum.inr "left") hm (small1000 (by show 4 ≤ 1000; decide)), ?_⟩
      rw [m4_putL]
      refine ⟨_, rfl, ?_⟩
      refine q _ _ But.upd ⟨_, s0, cs, k, upd_same, by omega, ?_, hl⟩ (Int.emod_nonneg _ (by omega)) (Int.emod_lt_of_pos _ hb0)
      rw [upd_ne ncm]
      exact hc
    · have gS : DGet H m (.str "spot") (some (.int k)) := m4_spot (n := k) ▸ DGet.k (k := Sum.inr "spot") hm
      refine ⟨_, rfl, m, _, rfl, gS, ?_⟩
      refine ⟨_, rfl, _, _, rfl, rfl, _, rfl, m, _, rfl, DPut.k (k := Sum.inr "spot") hm (small1000 (by show 4 ≤ 1000; decide)), ?_⟩
      rw [m4_putS]
      have hm2 : (upd H m (HO.dK (mk4 L s0 c (k + 1)))) m = some (.dK (mk4 L s0 c (k + 1))) := upd_same
      have hc2 : (upd H m (HO.dK (mk4 L s0 c (k + 1)))) c = some (.lst (cs.map V.int)) := by
        rw [upd_ne ncm]
        exact hc
      have bt : But m H (upd H m (HO.dK (mk4 L s0 c (k + 1)))) := But.upd
      generalize upd H m (HO.dK (mk4 L s0 c (k + 1))) = H2 at hm2 hc2 bt ⊢
      have gC : DGet H2 m (.str "cells") (some (.ref c)) := m4_cells (c := c) ▸ DGet.k (k := Sum.inr "cells") hm2
      have gE : DGet H2 m (.str "seed") (some (.int s0)) := m4_seed (s := s0) ▸ DGet.k (k := Sum.inr "seed") hm2
      have bk : B 20 (k : Int) := by
        unfold B
        omega
      refine ⟨_, rfl, m, _, rfl, gC, _, rfl, m, _, rfl, gE, _, rfl, _, _, rfl, rfl, (Or.inl ⟨by decide, by decide⟩), _, rfl, _, _, rfl, rfl, ((B.lit (n := 20) (by decide)).mul bk).mulW bk (by decide), _, _, rfl, rfl, _, _, rfl, ?_⟩
      have hlz : (0 : Int) < ((cs.map V.int).length : Int) := by
        rw [List.length_map]
        omega
      have hix : ∃ z : Int, atI (cs.map V.int) ((k : Int) % ((cs.map V.int).length : Int)) = some (.int z) := by
        rw [List.length_map]
        have h1 : k % cs.length < cs.length := Nat.mod_lt _ hl
        refine ⟨cs[k % cs.length], ?_⟩
        rw [← Int.natCast_emod]
        refine atI_nat ?_
        rw [List.getElem?_map, List.getElem?_eq_getElem h1]
        rfl
      obtain ⟨z, hz⟩ := hix
      refine ⟨_, rfl, _, rfl, _, rfl, _, rfl, c, _, rfl, .inl (.inl (.inl hc2)), _, _, rfl, rfl, hlz, c, _, _, _, rfl, rfl, .inl (.inl hc2), hz, ?_⟩
      have bk2 : B 30 (2 * (k : Int) + 3) := by
        unfold B
        omega
      refine ⟨_, rfl, _, rfl, _, _, rfl, rfl, (Or.inl ⟨by decide, by decide⟩), _, _, rfl, rfl, _, _, rfl, rfl, bk2.mulR (by decide), _, rfl, _, _, rfl, rfl, _, rfl, _, _, rfl, rfl, (by show (0 : Int) < 2147483647; decide), ?_⟩
      have be : ∀ y : Int, B 32 (y % 2147483647) := fun y => by
        have h1 := Int.emod_nonneg y (show (2147483647 : Int) ≠ 0 by decide)
        have h2 := Int.emod_lt_of_pos y (show (0 : Int) < 2147483647 by decide)
        unfold B
        omega
      refine ⟨_, rfl, _, rfl, _, _, rfl, rfl, (be _).mulR (by decide), _, rfl, _, _, rfl, rfl, (Or.inl ⟨by decide, by decide⟩), _, _, rfl, rfl, _, rfl, m, _, rfl, gE, _, _, rfl, rfl, _, rfl, _, _, rfl, rfl, (by show (0 : Int) < 2147483629; decide), ?_⟩
      refine ⟨_, rfl, _, _, rfl, rfl, (Or.inr ⟨by decide, by decide⟩), _, rfl, _, _, rfl, rfl, _, rfl, _, _, rfl, rfl, (by show (0 : Int) < 2147483647; decide), _, _, rfl, rfl, ⟨by decide, by decide⟩, _, rfl, _, _, rfl, rfl, hb0, ?_⟩
      exact q _ _ bt ⟨L, s0, cs, k + 1, hm2, by omega, hc2, hl⟩ (Int.emod_nonneg _ (by omega)) (Int.emod_lt_of_pos _ hb0)
/-! ### one of some -/
def sp_law_of (K : PySem.W.Frag) : Sp := fun vs H Q _ => ∃ (m cl a : Addr) (xs : List V) (n : Nat), vs = [.ref m, .ref a] ∧ SqL K H a xs ∧ 0 < xs.length ∧ xs.length ≤ 1000 ∧ n ≤ 1000000 ∧ MAt H m cl n ∧ ∀ H' x, But m H H' → MAt H' m cl (n + 1) → x ∈ xs → Q x H'
abbrev s__law_of : Stmt := topS 16
theorem sc__law_of : FnScope ["m", "some"] ["m", "some"] (defScope s__law_of) := ⟨rfl, rfl, rfl, by decide +kernel, rfl, by decide +kernel, by decide +kernel⟩
theorem k_law_of (T : Tx K mg) (D : Df K mg "_law_of" s__law_of ["m", "some"]) (c_law_draw : Kl P w K mg base 1 "_law_draw" (sp_law_draw K)) : Kl P w K mg base 2 "_law_of" (sp_law_of K) := by
  have nd := sc__law_of.nd
  refine Kl.by_body D sc__law_of (fun vs H Q E h => ?_) (fun f cdv A outer s H vs Q E hr h => ?_)
  · obtain ⟨_, _, _, _, _, rfl, _⟩ := h
    rfl
  · obtain ⟨m, cl, a, xs, n, rfl, hx, h0, h1, hn, hM, q⟩ := h
    have hu1 := hu_of hr
    refine ⟨_, (pss_one (ps_ret (pe_ix ix_list (pv 1) (pe_k c_law_draw  hr (by decide) (by rfl) (pa_cons (pv 0) (pa_cons (pe_callB call_len_seq (by rfl) T.len (by decide +kernel) (pa_cons (pv 1) pa_nil)) pa_nil))) (fun _ _ => rfl)))), ?_⟩
    refine ⟨.ref a, rfl, _, rfl, .ref a, rfl, a, xs, rfl, .inl hx, m, cl, _, n, rfl, by omega, by omega, hn, hM, fun H1 r b1 m1 r0 r1 => ?_⟩
    have hr1 : r.toNat < xs.length := by omega
    refine ⟨a, xs, r, xs[r.toNat], rfl, rfl, b1.seqL hM hx, ?_, q _ _ b1 m1 (List.getElem_mem hr1)⟩
    have key : atI xs ((r.toNat : Nat) : Int) = some xs[r.toNat] := atI_nat (List.getElem?_eq_getElem hr1)
    rw [show ((r.toNat : Nat) : Int) = r by omega] at key
    exact key
/-! ### between -/
def sp_law_between (K : PySem.W.Frag) : Sp := fun vs H Q _ => ∃ (m cl : Addr) (z : Int) (n : Nat), vs = [.ref m, .int z] ∧ 0 ≤ z ∧ z ≤ 100000 ∧ n ≤ 1000000 ∧ MAt H m cl n ∧ ∀ H' r, But m H H' → MAt H' m cl (n + 1) → -z ≤ r → r ≤ z → Q (.int r) H'
abbrev s__law_between : Stmt := topS 17
theorem sc__law_between : FnScope ["m", "size"] ["m", "size"] (defScope s__law_between) := ⟨rfl, rfl, rfl, by decide +kernel, rfl, by decide +kernel, by decide +kernel⟩
theorem k_law_between (T : Tx K mg) (D : Df K mg "_law_between" s__law_between ["m", "size"]) (c_law_draw : Kl P w K mg base 1 "_law_draw" (sp_law_draw K)) : Kl P w K mg base 2 "_law_between" (sp_law_between K) := by
  have nd := sc__law_between.nd
  refine Kl.by_body D sc__law_between (fun vs H Q E h => ?_) (fun f cdv A outer s H vs Q E hr h => ?_)
  · obtain ⟨_, _, _, _, rfl, _⟩ := h
    rfl
  · obtain ⟨m, cl, z, n, rfl, h0, h1, hn, hM, q⟩ := h
    have hu1 := hu_of hr
    refine ⟨_, (pss_one (ps_ret (pe_op op_sub (pe_k c_law_draw  hr (by decide) (by rfl) (pa_cons (pv 0) (pa_cons (pe_op op_add (pe_op op_mul pe_int (pv 1)) pe_int) pa_nil))) (pv 1)))), ?_⟩
    refine ⟨_, rfl, _, rfl, _, _, rfl, rfl, (Or.inl ⟨by decide, by decide⟩), _, _, rfl, rfl, m, cl, _, n, rfl, by omega, by omega, hn, hM, fun H1 r b1 m1 r0 r1 => ?_⟩
    refine ⟨_, rfl, _, _, rfl, rfl, ?_⟩
    exact q _ _ b1 m1 (by omega) (by omega)
/-! ### the state of a turn -/
def sp_law_begun (K : PySem.W.Frag) : Sp := fun vs H Q _ => ∃ (a : Addr) (k : Int) (ns : List Int), vs = [.ref a, .int k] ∧ SqL K H a (ns.map V.int) ∧ ns.length ≤ 63 ∧ 0 ≤ k ∧ k ≤ 100 ∧ ∀ H' m cl, Same H H' → H m = none → H cl = none → MAt H' m cl 0 → Q (.ref m) H'
theorem cut_int {ns : List Int} (lo hi : Option Int) : ∃ ms : List Int, cutV (ns.map V.int) lo hi = ms.map V.int ∧ ms.length ≤ ns.length := by
  unfold cutV
  refine ⟨(ns.drop (HT.sIx (ns.map V.int).length 0 lo)).take (HT.sIx (ns.map V.int).length (ns.map V.int).length hi - HT.sIx (ns.map V.int).length 0 lo), ?_, ?_⟩
  · rw [List.map_take, List.map_drop]
  · rw [List.length_take, List.length_drop]
    omega
abbrev s__law_begun : Stmt := topS 14
theorem sc__law_begun : FnScope ["script", "k", "cells", "great", "cell", "begun", "left"] ["script", "k"] (defScope s__law_begun) := ⟨rfl, rfl, rfl, by decide +kernel, rfl, by decide +kernel, by decide +kernel⟩
theorem k_law_begun (T : Tx K mg) (D : Df K mg "_law_begun" s__law_begun ["script", "k"])  : Kl P w K mg base 1 "_law_begun" (sp_law_begun K) := by
  have nd := sc__law_begun.nd
  refine Kl.by_body D sc__law_begun (fun vs H Q E h => ?_) (fun f cdv A outer s H vs Q E hr h => ?_)
  · obtain ⟨_, _, _, rfl, _⟩ := h
    rfl
  · obtain ⟨a, k, ns, rfl, hx, hl, hk0, hk1, q⟩ := h
    have hu1 := hu_of hr
    refine ⟨_, (pss_cons (ps_set (i := 2) nd rfl (by first | exact Or.inl rfl | exact Or.inr rfl) (pe_op op_cat (pe_slice sl_list (pv 0) (po_some (pv 1)) po_none) (pe_slice sl_list (pv 0) po_none (po_some (pv 1)))))
      (pss_cons (ps_setLc (i := 3) (own := [("cell", 4)]) (g := gName 4) rfl nd rfl rfl (sw_true rfl rfl rfl (by decide +kernel)) (pi_list (pv 0)) (blkOk_by (N := ["script", "k", "cells", "great", "cell", "begun", "left"]) (sc := defScope s__law_begun) (by decide +kernel)) (fun _ _ _ _ _ => (pg_name (i := 4) nd rfl (by first | exact Or.inl rfl | exact Or.inr rfl))) (fun _ _ _ _ _ => (pts_one (pt_cmpR op_ge (pv 4) (pe_op op_pow pe_int pe_int) (nomark _)))) (fun _ _ _ _ _ => (pv 4)))
      (pss_cons (ps_set (i := 5) nd rfl (by first | exact Or.inl rfl | exact Or.inr rfl) (pe_op op_add pe_int (pe_op op_mul pe_int (pv 1))))
      (pss_cons (ps_for PassesOwn.never rfl (pi_list (pv 2)) (pg_name (i := 4) nd rfl (by first | exact Or.inl rfl | exact Or.inr rfl)) (pss_one (ps_set (i := 5) nd rfl (by first | exact Or.inl rfl | exact Or.inr rfl) (pe_op op_mod (pe_callTy call_intI (by rfl) T.int (by decide +kernel) (pa_cons (pe_op op_add (pe_op op_mul (pv 5) pe_int) (pv 4)) pa_nil)) pe_int))))
      (pss_cons (ps_set (i := 6) nd rfl (by first | exact Or.inl rfl | exact Or.inr rfl) (pe_ifExp (pt_cmpR op_lt (pv 1) (pe_callB call_len_seq (by rfl) T.len (by decide +kernel) (pa_cons (pv 3) pa_nil)) (nomark _)) (pe_ix ix_list (pv 3) (pv 1) (fun _ _ => rfl)) pe_int))
      (pss_one (ps_ret (pe_disp (pps_cons pe_str (pv 6) (pps_cons pe_str (pv 5) (pps_cons pe_str (pe_op op_cat (pv 2) (pe_lst (pa_cons (pe_op op_add (pe_op op_mul pe_int (pv 1)) pe_int) pa_nil))) (pps_cons pe_str pe_int pps_nil)))) (by rfl) (by rfl) (fun z => by cases z) (by decide))))))))), ?_⟩
    obtain ⟨m1, e1, l1⟩ := cut_int (ns := ns) (some k) none
    obtain ⟨m2, e2, l2⟩ := cut_int (ns := ns) none (some k)
    refine ⟨.ref a, rfl, _, rfl, k, rfl, a, _, rfl, hx, fun p1 n1 => ?_⟩
    rw [e1]
    have s1 : Same H (upd H p1 (.lst (m1.map V.int))) := Same.new n1
    have g1 : (upd H p1 (.lst (m1.map V.int))) p1 = some (.lst (m1.map V.int)) := upd_same
    generalize upd H p1 (.lst (m1.map V.int)) = H1 at s1 g1 ⊢
    refine ⟨.ref a, rfl, _, rfl, k, rfl, a, _, rfl, s1.seq hx, fun p2 n2 => ?_⟩
    rw [e2]
    have s2 : Same H1 (upd H1 p2 (.lst (m2.map V.int))) := Same.new n2
    have g2 : (upd H1 p2 (.lst (m2.map V.int))) p2 = some (.lst (m2.map V.int)) := upd_same
    generalize upd H1 p2 (.lst (m2.map V.int)) = H2 at s2 g2 ⊢
    refine ⟨p1, p2, _, _, rfl, rfl, s2 _ _ g1, g2, ?_, fun p3 n3 => ?_⟩
    · rw [List.length_map, List.length_map]
      exact small (by omega)
    rw [← List.map_append]
    have s3 : Same H2 (upd H2 p3 (.lst ((m1 ++ m2).map V.int))) := Same.new n3
    have g3 : (upd H2 p3 (.lst ((m1 ++ m2).map V.int))) p3 = some (.lst ((m1 ++ m2).map V.int)) := upd_same
    have hl3 : (m1 ++ m2).length ≤ 126 := by
      rw [List.length_append]
      omega
    generalize m1 ++ m2 = cs at s3 g3 hl3 ⊢
    generalize upd H2 p3 (.lst (cs.map V.int)) = H3 at s3 g3 ⊢
    have sA : Same H H3 := (s1.trans s2).trans s3
    clear s1 s2 s3 g1 g2
    first | refine sigN [some (.ref a), some (.int (k)), some (V.ref p3), none, none, none, none] (by rfl) ?_ | refine sig [some (.ref a), some (.int (k)), some (V.ref p3), none, none, none, none] (by rfl) ?_
    refine ⟨.ref a, rfl, a, rfl, ⟨_, sA.seq hx⟩, fun D hD => ?_⟩
    refine lc_list (K := K) (a := a) (xs := ns.map V.int) (fun i H4 => Same H3 H4 ∧ ∃ gs : List Int, H4 D = some (.lst (gs.map V.int)) ∧ gs.length ≤ i) ⟨Same.new hD, [], upd_same, Nat.le_refl _⟩ (fun i H4 _ z => (sA.trans z.1).seq hx) (fun i x H4 hi z => ?_) (fun H4 z => ?_)
    · obtain ⟨s4, gs, g4, l4⟩ := z
      obtain ⟨y, rfl⟩ : ∃ y : Int, x = .int y := by
        rw [List.getElem?_map] at hi
        cases e : ns[i]? with
        | none =>
          rw [e] at hi
          cases hi
        | some y =>
          rw [e] at hi
          exact ⟨y, (Option.some.inj hi).symm⟩
      have hi2 : i < ns.length := by
        have h1 := (List.getElem?_eq_some_iff.mp hi).1
        rw [List.length_map] at h1
        exact h1
      refine ⟨rfl, _, rfl, _, _, rfl, rfl, ⟨by decide, by decide, by decide⟩, _, _, rfl, rfl, _, rfl, ite2 (fun _ => ?_) (fun _ => ?_)⟩
      · refine ⟨_, rfl, _, g4, ?_, Same.put s4 hD, gs ++ [y], ?_, ?_⟩
        · rw [List.length_map]
          exact small1000 (by omega)
        · rw [upd_same, List.map_append]
          rfl
        · rw [List.length_append]
          exact Nat.add_le_add_right l4 1
      · exact ⟨s4, gs, g4, Nat.le_succ_of_le l4⟩
    · obtain ⟨s4, gs, g4, l4⟩ := z
      have sB : Same H H4 := sA.trans s4
      have g3' := s4 _ _ g3
      refine ⟨_, rfl, _, _, rfl, rfl, (Or.inl ⟨by decide, by decide⟩), _, _, rfl, rfl, ?_⟩
      first | refine sigN [some (.ref a), some (.int (k)), some (V.ref p3), some (V.ref D), none, some (.int (61 + 9 * k)), none] (by rfl) ?_ | refine sig [some (.ref a), some (.int (k)), some (V.ref p3), some (V.ref D), none, some (.int (61 + 9 * k)), none] (by rfl) ?_
      refine ⟨_, rfl, p3, rfl, ⟨_, .inl (.inl g3')⟩, for_list (K := K) (a := p3) (xs := cs.map V.int) (fun i σ H5 => H5 = H4 ∧ ∃ (y : Int) (v : Option V), σ = [some (.ref a), some (.int k), some (.ref p3), some (.ref D), v, some (.int y), none]) ⟨rfl, _, none, rfl⟩ (fun i σ H5 _ z => by rw [z.1]; exact .inl (.inl g3')) ?_ ?_⟩
      · rintro i x σ H5 hi ⟨rfl, y, v, rfl⟩
        obtain ⟨t, rfl⟩ : ∃ t : Int, x = .int t := by
          rw [List.getElem?_map] at hi
          cases e : cs[i]? with
          | none =>
            rw [e] at hi
            cases hi
          | some t =>
            rw [e] at hi
            exact ⟨t, (Option.some.inj hi).symm⟩
        refine ⟨_, rfl, _, _, rfl, rfl, (Or.inr ⟨by decide, by decide⟩), _, rfl, _, _, rfl, rfl, _, rfl, _, _, rfl, rfl, (by show (0 : Int) < 2147483647; decide), ?_⟩
        exact ⟨rfl, _, _, rfl⟩
      · rintro σ H5 ⟨rfl, y, v, rfl⟩
        refine ⟨_, rfl, _, rfl, D, _, rfl, .inl (.inl (.inl g4)), _, _, rfl, rfl, _, rfl, ite2 (fun e => ?A) (fun e => ?B)⟩
        case' A =>
          have e' : k < ((gs.map V.int).length : Int) := of_decide_eq_true e
          rw [List.length_map] at e'
          have hk2 : k.toNat < gs.length := by omega
          have hz : atI (gs.map V.int) k = some (.int gs[k.toNat]) := by
            have key : atI (gs.map V.int) ((k.toNat : Nat) : Int) = some (.int gs[k.toNat]) := atI_nat (by
              rw [List.getElem?_map, List.getElem?_eq_getElem hk2]
              rfl)
            rw [show ((k.toNat : Nat) : Int) = k by omega] at key
            exact key
          refine ⟨_, rfl, _, rfl, D, _, _, _, rfl, rfl, .inl (.inl g4), hz, ?_⟩
        all_goals
          intro m nm
          have h3m : p3 ≠ m := ne_of_none g3' nm
          refine ⟨_, rfl, _, rfl, _, rfl, _, rfl, _, _, rfl, rfl, (Or.inl ⟨by decide, by decide⟩), _, _, rfl, rfl, (by show 1 ≤ sizeLine; decide), fun l nl => ?_⟩
          have nml : m ≠ l := ne_of_none upd_same nl
          have nl0 : H5 l = none := Same.free (Same.new nm) nl
          refine ⟨p3, l, cs.map V.int, [V.int (47 * k + 19)], rfl, rfl, ?_, upd_same, ?_, fun u nu => ?_⟩
          · rw [upd_ne (ne_of_none g3' nl0), upd_ne h3m]
            exact g3'
          · rw [List.length_map]
            exact small (by show cs.length + 1 ≤ 1000; omega)
          have nmu : m ≠ u := ne_of_none (by rw [upd_ne nml]; exact upd_same) nu
          have nu0 : H5 u = none := Same.free (Same.put (Same.new nm) nl0) nu
          refine ⟨?_, mk4 _ y u 0, rfl, (by show 4 ≤ 15; decide), ?_⟩
          · rw [upd_ne nmu, upd_ne nml]
            exact upd_same
          rw [m4_merge]
          have hm0 : H m = none := Same.free sB nm
          have hl0 : H l = none := Same.free sB nl0
          have hu0 : H u = none := Same.free sB nu0
          refine q _ m u (Same.put (Same.put (Same.put (Same.put sB hm0) hl0) hu0) hm0) hm0 hu0 ⟨_, y, cs ++ [47 * k + 19], 0, upd_same, Nat.le_refl _, ?_, ?_⟩
          · rw [upd_ne (fun z => nmu z.symm), upd_same, List.map_append]
            rfl
          · rw [List.length_append]
            exact Nat.lt_of_lt_of_le (by decide : 0 < 1) (Nat.le_add_left _ _)
end
end K05
set_option Elab.async false
set_option linter.all false
set_option maxRecDepth 100000
set_option maxHeartbeats 4000000
namespace K05
open PySem PySem.Spec PyProof.Rows L2 Gd K05M
section
variable {P : Program} {w : World} {K : PySem.W.Frag} {mg : Str → Option Value} {base : Heap}
/-! ### a bent one -/
def sp_law_bent (K : PySem.W.Frag) : Sp := fun vs H Q _ => ∃ (m cl p : Addr) (c : Cv) (n : Nat), vs = [.ref m, .ref p] ∧ SqT K H p c.tup ∧ n ≤ 100000 ∧ MAt H m cl n ∧ ∀ H' v, But m H H' → MAt H' m cl (n + 3) → Kd K H' v 5 false → Q v H'
/-- a value that is no int -/
theorem kd_bent {H : Hp} {p : Addr} {xs : List V} {o : V} {T : String} {j : Int} (hT : T ≠ "int") (ho : TyB K H o T) (hno : ∀ i, o ≠ .int i) (h : SqT K H p xs) (hl : (xs.length : Int) = j) (hz : xs.length ≤ 100) (hm : o ∈ xs) (hi : ∀ x ∈ xs, x = o ∨ ∃ i, x = V.int i) : Kd K H (.ref p) j false := by
  have h1 := Kd.fits (K := K) (H := H) (n := j) p xs (fun x => if x = o then T else "int") rfl h hl hz fun x hx => by
    rcases hi x hx with rfl | ⟨i, rfl⟩
    · rw [if_pos rfl]
      exact ho
    · rw [if_neg (fun e => hno i e.symm)]
      exact .int i
  have e : (xs.all fun x => decide ((if x = o then T else "int") = "int")) = false := by
    rw [List.all_eq_false]
    refine ⟨o, hm, ?_⟩
    rw [if_pos rfl]
    simp [hT]
  rw [e] at h1
  exact h1
theorem TyB.but {m cl : Addr} {H H' : Hp} {n n' : Nat} {x : V} {t : String} (b : But m H H') (h0 : MAt H m cl n) (h1 : MAt H' m cl n') (h : TyB K H x t) : TyB K H' x t := by
  cases h with
  | non => exact .non
  | bl b => exact .bl b
  | int i => exact .int i
  | str x => exact .str x
  | byt b => exact .byt b
  | lst h => exact .lst (b.seqL h0 h)
  | tup h => exact .tup (b.seqT h0 h)
  | @dK a kvs h =>
    by_cases e : a = m
    · obtain ⟨kvs', h2⟩ := h1.some
      rw [e]
      exact .dK h2
    · exact .dK (b _ _ h e)
theorem Kd.but {m cl : Addr} {H H' : Hp} {n n' : Nat} {v : V} {j : Int} {r : Bool} (b : But m H H') (h0 : MAt H m cl n) (h1 : MAt H' m cl n') (h : Kd K H v j r) : Kd K H' v j r := by
  cases h with
  | other hv =>
    cases hv with
    | non => exact .other .non
    | bl b => exact .other (.bl b)
    | int i => exact .other (.int i)
    | str x => exact .other (.str x)
    | lst h => exact .other (.lst (b.lst h0 h))
  | long p xs e hx hl => exact .long p xs e (b.seqT h0 hx) hl
  | fits p xs tf e hx hl hs ht => exact .fits p xs tf e (b.seqT h0 hx) hl hs fun x hm => TyB.but b h0 h1 (ht x hm)
theorem cut5 (c : Cv) (k : Int) (h0 : 0 ≤ k) (h1 : k < 5) (o : V) : (cutV c.tup none (some k) ++ [o] ++ cutV c.tup (some (k + 1)) none).length = 5 ∧ o ∈ cutV c.tup none (some k) ++ [o] ++ cutV c.tup (some (k + 1)) none ∧ ∀ x ∈ cutV c.tup none (some k) ++ [o] ++ cutV c.tup (some (k + 1)) none, x = o ∨ ∃ i, x = V.int i := by
  refine ⟨?_, by simp, fun x hx => ?_⟩
  · have hk : k = 0 ∨ k = 1 ∨ k = 2 ∨ k = 3 ∨ k = 4 := by omega
    rcases hk with rfl | rfl | rfl | rfl | rfl <;> rfl
  · rw [List.mem_append, List.mem_append] at hx
    rcases hx with (hx | hx) | hx
    · exact Or.inr (c.ints x (List.mem_of_mem_drop (List.mem_of_mem_take hx)))
    · exact Or.inl (List.mem_singleton.mp hx)
    · exact Or.inr (c.ints x (List.mem_of_mem_drop (List.mem_of_mem_take hx)))
abbrev s__law_bent : Stmt := topS 23
theorem sc__law_bent : FnScope ["m", "five_v", "k", "other", "some"] ["m", "five_v"] (defScope s__law_bent) := ⟨rfl, rfl, rfl, by decide +kernel, rfl, by decide +kernel, by decide +kernel⟩
theorem k_law_bent (T : Tx K mg) (D : Df K mg "_law_bent" s__law_bent ["m", "five_v"]) (c_law_draw : Kl P w K mg base 1 "_law_draw" (sp_law_draw K)) (c_law_of : Kl P w K mg base 2 "_law_of" (sp_law_of K)) : Kl P w K mg base 3 "_law_bent" (sp_law_bent K) := by
  have nd := sc__law_bent.nd
  refine Kl.by_body D sc__law_bent (fun vs H Q E h => ?_) (fun f cdv A outer s H vs Q E hr h => ?_)
  · obtain ⟨_, _, _, _, _, rfl, _⟩ := h
    rfl
  · obtain ⟨m, cl, p, c, n, rfl, hx, hn, hM, q⟩ := h
    have hu1 := hu_of hr
    refine ⟨_, (pss_cons (ps_set (i := 2) nd rfl (by first | exact Or.inl rfl | exact Or.inr rfl) (pe_k c_law_draw  hr (by decide) (by rfl) (pa_cons (pv 0) (pa_cons pe_int pa_nil))))
      (pss_cons (ps_set (i := 3) nd rfl (by first | exact Or.inl rfl | exact Or.inr rfl) (pe_k c_law_of  hr (by decide) (by rfl) (pa_cons (pv 0) (pa_cons (pe_lst (pa_cons pe_bl (pa_cons pe_non (pa_cons pe_str (pa_cons (pe_tup (pa_cons pe_int pa_nil)) (pa_cons (pe_tup (pa_cons pe_int (pa_cons pe_int pa_nil))) (pa_cons pe_bl pa_nil))))))) pa_nil))))
      (pss_cons (ps_set (i := 4) nd rfl (by first | exact Or.inl rfl | exact Or.inr rfl) (pe_lst (pa_cons (pe_slice sl_tupA (pv 1) po_none (po_some pe_int)) (pa_cons (pe_op op_catA (pv 1) (pe_tup (pa_cons pe_int pa_nil))) (pa_cons (pe_op op_catA (pe_op op_catA (pe_slice sl_tupA (pv 1) po_none (po_some (pv 2))) (pe_tup (pa_cons (pv 3) pa_nil))) (pe_slice sl_tupA (pv 1) (po_some (pe_op op_add (pv 2) pe_int)) po_none)) (pa_cons (pe_callTy call_list_of (by rfl) T.list (by decide +kernel) (pa_cons (pv 1) pa_nil)) (pa_cons pe_non (pa_cons (pe_tup pa_nil) (pa_cons pe_int (pa_cons (pe_tup (pa_cons (pv 1) pa_nil)) pa_nil))))))))))
      (pss_one (ps_ret (pe_k c_law_of  hr (by decide) (by rfl) (pa_cons (pv 0) (pa_cons (pv 4) pa_nil)))))))), ?_⟩
    refine ⟨_, rfl, m, cl, 5, n, rfl, by decide, by decide, by omega, hM, fun H1 k b1 m1 k0 k1 => ?_⟩
    first | refine sigN [some (.ref m), some (.ref p), some (.int (k)), none, none] (by rfl) ?_ | refine sig [some (.ref m), some (.ref p), some (.int (k)), none, none] (by rfl) ?_
    have hx1 : SqT K H1 p c.tup := b1.seqT hM hx
    refine ⟨_, rfl, (by show 1 ≤ sizeLine; decide), fun t1 nt1 => ?_⟩
    have s1 := Same.new (H := H1) (p := t1) (o := .tup [.int 1]) nt1
    have g1 : upd H1 t1 (.tup [.int 1]) t1 = some (.tup [.int 1]) := upd_same
    generalize upd H1 t1 (.tup [.int 1]) = H2 at s1 g1 ⊢
    refine ⟨(by show 2 ≤ sizeLine; decide), fun t2 nt2 => ?_⟩
    have s2 := Same.new (H := H2) (p := t2) (o := .tup [.int 2, .int 1]) nt2
    have g2 : upd H2 t2 (.tup [.int 2, .int 1]) t2 = some (.tup [.int 2, .int 1]) := upd_same
    generalize upd H2 t2 (.tup [.int 2, .int 1]) = H3 at s2 g2 ⊢
    refine ⟨(by show 6 ≤ sizeLine; decide), fun l nl => ?_⟩
    have s3 := Same.new (H := H3) (p := l) (o := .lst [.bl true, .non, .str "1", .ref t1, .ref t2, .bl false]) nl
    have g3 : upd H3 l (.lst [.bl true, .non, .str "1", .ref t1, .ref t2, .bl false]) l = some (.lst [.bl true, .non, .str "1", .ref t1, .ref t2, .bl false]) := upd_same
    generalize upd H3 l (.lst [.bl true, .non, .str "1", .ref t1, .ref t2, .bl false]) = H4 at s3 g3 ⊢
    have sA := (s1.trans s2).trans s3
    have gt1 := s3 _ _ (s2 _ _ g1)
    have gt2 := s3 _ _ g2
    have m4 := m1.same sA
    refine ⟨m, cl, l, _, n + 1, rfl, lst_of g3, (by show 0 < 6; decide), (by show 6 ≤ 1000; decide), by omega, m4, fun H5 o b5 m5 ho => ?_⟩
    have hx5 : SqT K H5 p c.tup := b5.seqT m4 (Same.tup sA hx1)
    have ot : ∃ T, T ≠ "int" ∧ TyB K H5 o T ∧ ∀ i, o ≠ .int i := by
      simp only [List.mem_cons, List.not_mem_nil, or_false] at ho
      rcases ho with rfl | rfl | rfl | rfl | rfl | rfl
      · exact ⟨_, by decide, .bl _, fun i z => by cases z⟩
      · exact ⟨_, by decide, .non, fun i z => by cases z⟩
      · exact ⟨_, by decide, .str _, fun i z => by cases z⟩
      · exact ⟨_, by decide, .tup (tup_of (b5.tup m4 gt1)), fun i z => by cases z⟩
      · exact ⟨_, by decide, .tup (tup_of (b5.tup m4 gt2)), fun i z => by cases z⟩
      · exact ⟨_, by decide, .bl _, fun i z => by cases z⟩
    obtain ⟨T0, hT, hoT, hoi⟩ := ot
    have bA : But m H H5 := b1.trans ((But.of sA).trans b5)
    clear sA s1 s2 s3 g1 g2 g3 gt1 gt2 m4 b5 b1 m1 ho hx1
    first | refine sigN [some (.ref m), some (.ref p), some (.int (k)), some o, none] (by rfl) ?_ | refine sig [some (.ref m), some (.ref p), some (.int (k)), some o, none] (by rfl) ?_
    refine ⟨.ref p, rfl, 4, rfl, slA_any hx5 fun p1 H6 s6 e1 => ?_⟩
    refine ⟨.ref p, rfl, (by show 1 ≤ sizeLine; decide), fun u1 nu1 => ?_⟩
    have s7 := Same.new (H := H6) (p := u1) (o := .tup [.int 0]) nu1
    have g7 : upd H6 u1 (.tup [.int 0]) u1 = some (.tup [.int 0]) := upd_same
    generalize upd H6 u1 (.tup [.int 0]) = H7 at s7 g7 ⊢
    have s57 := s6.trans s7
    refine catA_any (Same.tup s57 hx5) (tup_of g7) (by show 5 + 1 ≤ 1000; decide) fun p2 H8 s8 e2 => ?_
    have s58 := s57.trans s8
    refine ⟨.ref p, rfl, _, rfl, k, rfl, slA_any (Same.tup s58 hx5) fun p3 H9 s9 e3 => ?_⟩
    refine ⟨_, rfl, (by show 1 ≤ sizeLine; decide), fun u2 nu2 => ?_⟩
    have sa := Same.new (H := H9) (p := u2) (o := .tup [o]) nu2
    have ga : upd H9 u2 (.tup [o]) u2 = some (.tup [o]) := upd_same
    generalize upd H9 u2 (.tup [o]) = Ha at sa ga ⊢
    have c1 : (cutV c.tup none (some k)).length ≤ 5 := by
      unfold cutV
      rw [List.length_take, List.length_drop]
      show min _ (5 - _) ≤ 5
      omega
    have c2 : (cutV c.tup (some (k + 1)) none).length ≤ 5 := by
      unfold cutV
      rw [List.length_take, List.length_drop]
      show min _ (5 - _) ≤ 5
      omega
    refine catA_any (Same.tup sa e3) (tup_of ga) (by show _ + 1 ≤ 1000; omega) fun p4 Hb sb e4 => ?_
    have s5b := ((s58.trans s9).trans sa).trans sb
    refine ⟨.ref p, rfl, _, rfl, _, _, rfl, rfl, _, rfl, ?_⟩
    unfold tNoPart
    refine slA_any (Same.tup s5b hx5) fun p5 Hc sc e5 => ?_
    refine catA_any (Same.tup sc e4) e5 (by rw [List.length_append]; show _ + 1 + _ ≤ 1000; omega) fun p6 Hd sd e6 => ?_
    have s5d := (s5b.trans sc).trans sd
    refine ⟨.ref p, rfl, p, _, rfl, .inr (Same.tup s5d hx5), fun l2 nl2 => ?_⟩
    have se := Same.new (H := Hd) (p := l2) (o := .lst c.tup) nl2
    have ge : upd Hd l2 (.lst c.tup) l2 = some (.lst c.tup) := upd_same
    generalize upd Hd l2 (.lst c.tup) = He at se ge ⊢
    refine ⟨(by show 0 ≤ sizeLine; decide), fun z nz => ?_⟩
    have sf := Same.new (H := He) (p := z) (o := .tup []) nz
    have gf : upd He z (.tup []) z = some (.tup []) := upd_same
    generalize upd He z (.tup []) = Hf at sf gf ⊢
    refine ⟨.ref p, rfl, (by show 1 ≤ sizeLine; decide), fun y ny => ?_⟩
    have sg1 := Same.new (H := Hf) (p := y) (o := .tup [.ref p]) ny
    have gg : upd Hf y (.tup [.ref p]) y = some (.tup [.ref p]) := upd_same
    generalize upd Hf y (.tup [.ref p]) = Hg at sg1 gg ⊢
    refine ⟨(by show 8 ≤ sizeLine; decide), fun r nr => ?_⟩
    have sh := Same.new (H := Hg) (p := r) (o := .lst [.ref p1, .ref p2, .ref p6, .ref l2, .non, .ref z, .int 7, .ref y]) nr
    have gh : upd Hg r (.lst [.ref p1, .ref p2, .ref p6, .ref l2, .non, .ref z, .int 7, .ref y]) r = some (.lst [.ref p1, .ref p2, .ref p6, .ref l2, .non, .ref z, .int 7, .ref y]) := upd_same
    generalize upd Hg r (.lst [.ref p1, .ref p2, .ref p6, .ref l2, .non, .ref z, .int 7, .ref y]) = Hh at sh gh ⊢
    have s5h := (((s5d.trans se).trans sf).trans sg1).trans sh
    have mh := m5.same s5h
    first | refine sigN [some (.ref m), some (.ref p), some (.int (k)), some o, some (.ref r)] (by rfl) ?_ | refine sig [some (.ref m), some (.ref p), some (.int (k)), some o, some (.ref r)] (by rfl) ?_
    refine ⟨_, rfl, _, rfl, m, cl, r, _, n + 1 + 1, rfl, lst_of gh, (by show 0 < 8; decide), (by show 8 ≤ 1000; decide), by omega, mh, fun Hz v bz mz hv => ?_⟩
    have key : Kd K Hh v 5 false := by
      have sdh := ((se.trans sf).trans sg1).trans sh
      simp only [List.mem_cons, List.not_mem_nil, or_false] at hv
      rcases hv with rfl | rfl | rfl | rfl | rfl | rfl | rfl | rfl
      · exact .long p1 _ rfl (Same.tup (((((((s7.trans s8).trans s9).trans sa).trans sb).trans sc).trans sd).trans sdh) e1) (by show (4 : Int) ≠ 5; decide)
      · exact .long p2 _ rfl (Same.tup ((((((s9.trans sa).trans sb).trans sc).trans sd)).trans sdh) e2) (by show (6 : Int) ≠ 5; decide)
      · obtain ⟨i1, i2, i3⟩ := cut5 c k k0 k1 o
        exact kd_bent hT (TyB.same s5h hoT) hoi (Same.tup sdh e6) (by rw [i1]; rfl) (by omega) i2 i3
      · exact .other (.lst (sh _ _ (sg1 _ _ (sf _ _ ge))))
      · exact .other .non
      · exact .long z _ rfl (tup_of (sh _ _ (sg1 _ _ gf))) (by show (0 : Int) ≠ 5; decide)
      · exact .other (.int 7)
      · exact .long y _ rfl (tup_of (sh _ _ gg)) (by show (1 : Int) ≠ 5; decide)
    refine q Hz v (bA.trans ((But.of s5h).trans bz)) mz ?_
    exact Kd.but bz mh mz key
end
end K05
set_option Elab.async false
set_option linter.all false
set_option maxRecDepth 100000
set_option maxHeartbeats 4000000
namespace K05
open PySem PySem.Spec PyProof.Rows L2 Gd K05M
section
variable {P : Program} {w : World} {K : PySem.W.Frag} {mg : Str → Option Value} {base : Heap}
/-! ### curves -/
/-- small numbers: up to 1000 -/
structure Cv.Tiny (c : Cv) : Prop where
  h1 : B 10 c.a1
  h2 : B 10 c.a2
  h3 : B 10 c.a3
  h4 : B 10 c.a4
  h6 : B 10 c.a6
local macro_rules | `(tactic| walk_at "bd") => `(tactic| (repeat (first | assumption | apply B.add | apply B.sub | apply B.mul | apply B.neg | exact B.lit (n := 12) (by decide))))
local macro_rules | `(tactic| walk_at "bu") => `(tactic| (apply B.up; walk_at "bd"; decide))
theorem Cv.Tiny.sm {c : Cv} (h : c.Tiny) : c.Sm := ⟨h.h1.up (by decide), h.h2.up (by decide), h.h3.up (by decide), h.h4.up (by decide), h.h6.up (by decide)⟩
theorem Cv.Tiny.c4 {c : Cv} (h : c.Tiny) : B 60 c.c4 := by
  obtain ⟨h1, h2, h3, h4, h6⟩ := h
  have e2 : B 23 c.b2 := by (unfold Cv.b2; walk_at "bu")
  have e4 : B 23 c.b4 := by (unfold Cv.b4; walk_at "bu")
  unfold Cv.c4
  walk_at "bu"
def numsD (c : Cv) : List PyData := [.int c.b2, .int c.b4, .int c.b6, .int c.b8, .int c.c4, .int c.c6, .int c.disc]
theorem nums_ok {c : Cv} (h : c.Sm) : okAll (numsD c) = true := by
  have d := disc_B h
  have e := c4_B h
  obtain ⟨h1, h2, h3, h4, h6⟩ := h
  have e2 : B 41 c.b2 := by (unfold Cv.b2; walk_at "bu")
  have e4 : B 41 c.b4 := by (unfold Cv.b4; walk_at "bu")
  have e6 : B 41 c.b6 := by (unfold Cv.b6; walk_at "bu")
  have e8 : B 70 c.b8 := by (unfold Cv.b8; walk_at "bu")
  have ec : B 300 c.c6 := by (unfold Cv.c6; walk_at "bu")
  simp [okAll, okD, numsD, e2.log (by decide), e4.log (by decide), e6.log (by decide), e8.log (by decide), d.log (by decide), e.log (by decide), ec.log (by decide)]
theorem dp_nums {H : Hp} (c : Cv) : DpAll K H c.nums (numsD c) := .cons (.int _) (.cons (.int _) (.cons (.int _) (.cons (.int _) (.cons (.int _) (.cons (.int _) (.cons (.int _) .nil))))))
theorem sg_dvd (n d : Int) : ∃ k, n = sg n d * k := by
  have h : ((Nat.gcd n.natAbs d.natAbs : Nat) : Int) ∣ n := Int.ofNat_dvd_left.mpr (Nat.gcd_dvd_left _ _)
  obtain ⟨k, hk⟩ := h
  unfold sg
  split
  · exact ⟨-k, by rw [Int.neg_mul_neg]; exact hk⟩
  · exact ⟨k, hk⟩
theorem sg_dvd2 (n d : Int) : ∃ k, d = sg n d * k := by
  have h : ((Nat.gcd n.natAbs d.natAbs : Nat) : Int) ∣ d := Int.ofNat_dvd_left.mpr (Nat.gcd_dvd_right _ _)
  obtain ⟨k, hk⟩ := h
  unfold sg
  split
  · exact ⟨-k, by rw [Int.neg_mul_neg]; exact hk⟩
  · exact ⟨k, hk⟩
theorem quot_B {m : Nat} {n s : Int} (hs : s ≠ 0) (hd : ∃ k, n = s * k) (hn : B m n) : B m (n.fdiv s) := by
  obtain ⟨k, rfl⟩ := hd
  rw [Int.mul_fdiv_cancel_left k hs]
  unfold B at *
  rw [Int.natAbs_mul] at hn
  have h1 : 1 ≤ s.natAbs := by omega
  have h2 : 1 * k.natAbs ≤ s.natAbs * k.natAbs := Nat.mul_le_mul_right _ h1
  omega
theorem cube (x d : Int) : [V.int (x ^ (3 : Int).toNat), V.int d] = [V.int (x * x * x), V.int d] := by
  rw [show x ^ (3 : Int).toNat = x * x * x by show x ^ 3 = _; grind]
theorem moved_disc (A r s t : Int) : (Cv.mv ⟨0, A, 0, 0, 0⟩ r s t).disc = 0 := by
  have e2 : (Cv.mv ⟨0, A, 0, 0, 0⟩ r s t).b2 = 4 * A + 12 * r := by
    unfold Cv.b2 Cv.mv
    grind
  have e4 : (Cv.mv ⟨0, A, 0, 0, 0⟩ r s t).b4 = 4 * A * r + 6 * r * r := by
    unfold Cv.b4 Cv.mv
    grind
  have e6 : (Cv.mv ⟨0, A, 0, 0, 0⟩ r s t).b6 = 4 * A * r * r + 4 * r * r * r := by
    unfold Cv.b6 Cv.mv
    grind
  have e8 : (Cv.mv ⟨0, A, 0, 0, 0⟩ r s t).b8 = 4 * A * r * r * r + 3 * r * r * r * r := by
    unfold Cv.b8 Cv.mv
    grind
  unfold Cv.disc
  rw [e2, e4, e6, e8]
  exact moved0 A r
def sp_law_curve_right (K : PySem.W.Frag) : Sp := fun vs H Q _ => ∃ (m cl : Addr) (n : Nat), vs = [.ref m] ∧ n ≤ 1000 ∧ MAt H m cl n ∧ ∀ H', But m H H' → MAt H' m cl (n + 13) → Q (.bl true) H'
abbrev s__law_curve_right : Stmt := topS 24
theorem sc__law_curve_right : FnScope ["m", "size", "five_v", "k", "due", "told", "start", "bad", "value"] ["m"] (defScope s__law_curve_right) := ⟨rfl, rfl, rfl, by decide +kernel, rfl, by decide +kernel, by decide +kernel⟩
theorem k_law_curve_right (T : Tx K mg) (D : Df K mg "_law_curve_right" s__law_curve_right ["m"]) (c_law_of : Kl P w K mg base 2 "_law_of" (sp_law_of K)) (c_law_due : Kl P w K mg base 2 "_law_due" (sp_law_due K)) (c_law_moved : Kl P w K mg base 1 "_law_moved" (sp_law_moved K)) (c_law_between : Kl P w K mg base 2 "_law_between" (sp_law_between K)) (c_is_curve : Kl P w K mg base 3 "is_curve" (sp_is_curve K)) (c_numbers_of : Kl P w K mg base 2 "numbers_of" (sp_numbers_of K)) (c_j_of : Kl P w K mg base 3 "j_of" (sp_j_of K)) (c_law_cut : Kl P w K mg base 2 "_law_cut" (sp_law_cut K)) (c_law_bent : Kl P w K mg base 3 "_law_bent" (sp_law_bent K)) : Kg P w K mg base 4 "_law_curve_right" (sp_law_curve_right K) := by
  have nd := sc__law_curve_right.nd
  refine Kg.by_body D sc__law_curve_right (fun vs H Q E h => ?_) (fun f cdv A outer s H vs Q E hgd hr h => ?_)
  · obtain ⟨_, _, _, rfl, _⟩ := h
    rfl
  · obtain ⟨m, cl, n, rfl, hn, hM, q⟩ := h
    have hu1 := hu_of hr
    refine ⟨_, (pss_cons (ps_set (i := 1) nd rfl (by first | exact Or.inl rfl | exact Or.inr rfl) (pe_k c_law_of  hr (by decide) (by rfl) (pa_cons (pv 0) (pa_cons (pe_lst (pa_cons pe_int (pa_cons pe_int (pa_cons pe_int pa_nil)))) pa_nil))))
      (pss_cons (ps_set (i := 2) nd rfl (by first | exact Or.inl rfl | exact Or.inr rfl) (pe_callTy call_tuple_of (by rfl) T.tuple (by decide +kernel) (pa_cons (pe_lc (own := [("k", 3)]) (g := gName 3) rfl nd (pi_range1 (by rfl) T.range (pa_cons pe_int pa_nil)) (blkOk_by (N := ["m", "size", "five_v", "k", "due", "told", "start", "bad", "value"]) (sc := defScope s__law_curve_right) (by decide +kernel)) (fun _ _ _ _ _ => (pg_name (i := 3) nd rfl (by first | exact Or.inl rfl | exact Or.inr rfl))) (fun _ _ _ _ _ => pts_nil) (fun _ _ _ _ _ => (pe_k c_law_between  hr (by decide) (by rfl) (pa_cons (pv 0) (pa_cons (pv 1) pa_nil))))) pa_nil)))
      (pss_cons (ps_set (i := 4) nd rfl (by first | exact Or.inl rfl | exact Or.inr rfl) (pe_k c_law_due  hr (by decide) (by rfl) (pa_cons (pv 2) pa_nil)))
      (pss_cons (ps_if (pt_cmpR op_ne (pe_callB (call_reprD hgd hr.units) (by rfl) T.repr (by decide +kernel) (pa_cons (pe_k c_is_curve  hr (by decide) (by rfl) (pa_cons (pv 2) pa_nil)) pa_nil)) (pe_callB (call_reprD hgd hr.units) (by rfl) T.repr (by decide +kernel) (pa_cons (pe_cmpR op_ne (pe_ix ix_tup (pv 4) pe_int (fun _ _ => rfl)) pe_int (nomark _)) pa_nil)) (nomark _)) (pss_one (ps_ret pe_bl)) pss_nil)
      (C8.pss_cut (ps_if (pt_cmpR op_ne (pe_ix ix_tup (pv 4) pe_int (fun _ _ => rfl)) pe_int (nomark _)) (pss_cons (ps_set (i := 5) nd rfl (by first | exact Or.inl rfl | exact Or.inr rfl) (pe_lst (pa_cons (pe_k c_numbers_of  hr (by decide) (by rfl) (pa_cons (pv 2) pa_nil)) (pa_cons (pe_k c_j_of  hr (by decide) (by rfl) (pa_cons (pv 2) pa_nil)) pa_nil))))
      (pss_one (ps_if (pt_cmpR op_ne (pe_callB (call_reprD hgd hr.units) (by rfl) T.repr (by decide +kernel) (pa_cons (pv 5) pa_nil)) (pe_callB (call_reprD hgd hr.units) (by rfl) T.repr (by decide +kernel) (pa_cons (pe_lst (pa_cons (pv 4) (pa_cons (pe_k c_law_cut  hr (by decide) (by rfl) (pa_cons (pe_op op_pow (pe_ix ix_tup (pv 4) pe_int (fun _ _ => rfl)) pe_int) (pa_cons (pe_ix ix_tup (pv 4) pe_int (fun _ _ => rfl)) pa_nil))) pa_nil))) pa_nil)) (nomark _)) (pss_one (ps_ret pe_bl)) pss_nil))) pss_nil)
      (pss_cons (ps_set (i := 6) nd rfl (by first | exact Or.inl rfl | exact Or.inr rfl) (pe_tup (pa_cons pe_int (pa_cons (pe_k c_law_between  hr (by decide) (by rfl) (pa_cons (pv 0) (pa_cons pe_int pa_nil))) (pa_cons pe_int (pa_cons pe_int (pa_cons pe_int pa_nil)))))))
      (pss_cons (ps_set (i := 7) nd rfl (by first | exact Or.inl rfl | exact Or.inr rfl) (pe_k c_law_moved  hr (by decide) (by rfl) (pa_cons (pv 6) (pa_cons (pe_k c_law_between  hr (by decide) (by rfl) (pa_cons (pv 0) (pa_cons pe_int pa_nil))) (pa_cons (pe_k c_law_between  hr (by decide) (by rfl) (pa_cons (pv 0) (pa_cons pe_int pa_nil))) (pa_cons (pe_k c_law_between  hr (by decide) (by rfl) (pa_cons (pv 0) (pa_cons pe_int pa_nil))) pa_nil))))))
      (pss_one (ps_ret (pe_cmpR (op_eqD hr.units) (pe_lc (own := [("value", 8)]) (g := gName 8) rfl nd (pi_tup (pe_tup (pa_cons (pv 7) (pa_cons (pe_k c_law_bent  hr (by decide) (by rfl) (pa_cons (pv 0) (pa_cons (pv 2) pa_nil))) pa_nil)))) (blkOk_by (N := ["m", "size", "five_v", "k", "due", "told", "start", "bad", "value"]) (sc := defScope s__law_curve_right) (by decide +kernel)) (fun _ _ _ _ _ => (pg_name (i := 8) nd rfl (by first | exact Or.inl rfl | exact Or.inr rfl))) (fun _ _ _ _ _ => pts_nil) (fun _ _ _ _ _ => (pe_k c_is_curve  hr (by decide) (by rfl) (pa_cons (pv 8) pa_nil)))) (pe_lst (pa_cons pe_bl (pa_cons pe_bl pa_nil))) (nomark _))))))))))), ?_⟩
    refine ⟨_, rfl, (by show 3 ≤ sizeLine; decide), fun l nl => ?_⟩
    have s1 := Same.new (H := H) (p := l) (o := .lst [.int 3, .int 20, .int 1000]) nl
    have g1 : upd H l (.lst [.int 3, .int 20, .int 1000]) l = some (.lst [.int 3, .int 20, .int 1000]) := upd_same
    generalize upd H l (.lst [.int 3, .int 20, .int 1000]) = H1 at s1 g1 ⊢
    have m1 := hM.same s1
    refine ⟨m, cl, l, _, n, rfl, lst_of g1, (by show 0 < 3; decide), (by show 3 ≤ 1000; decide), by omega, m1, fun H2 z b2 m2 hz => ?_⟩
    have hz2 : ∃ k : Int, z = .int k ∧ 0 ≤ k ∧ k ≤ 1000 := by
      simp only [List.mem_cons, List.not_mem_nil, or_false] at hz
      rcases hz with rfl | rfl | rfl <;> exact ⟨_, rfl, by decide, by decide⟩
    obtain ⟨size, rfl, z0, z1⟩ := hz2
    have bA : But m H H2 := (But.of s1).trans b2
    clear s1 g1 m1 b2 hz
    first | refine sigN [some (.ref m), some (.int (size)), none, none, none, none, none, none, none] (by rfl) ?_ | refine sig [some (.ref m), some (.int (size)), none, none, none, none, none, none, none] (by rfl) ?_
    refine ⟨5, rfl, by decide, by decide, fun D hD => ?_⟩
    have hmD := m2.ne hD
    refine lc_range (lo := 0) (n := 5) (fun i H3 => ∃ L : List Int, H3 D = some (.lst (L.map V.int)) ∧ L.length = i ∧ (∀ x ∈ L, B 10 x) ∧ But m H2 H3 ∧ MAt H3 m cl (n + 1 + i)) ⟨[], upd_same, rfl, (by intro x hx; cases hx), But.of (Same.new hD), m2.same (Same.new hD)⟩ (fun i H3 hi z => ?_) (fun H3 z => ?_)
    · obtain ⟨L, hL, el, hB, b3, m3⟩ := z
      refine ⟨rfl, _, rfl, _, rfl, m, cl, size, n + 1 + i, rfl, z0, by omega, by omega, m3, fun H4 r b4 m4 r0 r1 => ?_⟩
      refine ⟨_, b4.lst m3 hL, by rw [List.length_map]; exact small1000 (by omega), L ++ [r], ?_, by rw [List.length_append, el]; rfl, ?_, fun c o e nc => ?_, ?_⟩
      · rw [upd_same, List.map_append]
        rfl
      · intro x hx
        rcases List.mem_append.mp hx with hx | hx
        · exact hB x hx
        · rw [List.mem_singleton.mp hx]
          exact B.between 1000 (by omega) (by omega) (by decide)
      · rw [upd_ne (ne_of_none e hD)]
        exact (b3.trans b4) c o e nc
      · exact m4.put hmD
    obtain ⟨L, hL, el, hB, b3, m3⟩ := z
    obtain ⟨c, rfl⟩ : ∃ c : Cv, L = [c.a1, c.a2, c.a3, c.a4, c.a6] := by
      match L, el with
      | [x1, x2, x3, x4, x6], _ => exact ⟨⟨x1, x2, x3, x4, x6⟩, rfl⟩
    have ht : c.Tiny := ⟨hB _ (by simp), hB _ (by simp), hB _ (by simp), hB _ (by simp), hB _ (by simp)⟩
    have hm := ht.sm
    refine ⟨D, c.tup, rfl, .inl ⟨lst_of hL, fun f nf => ?_⟩⟩
    have s4 := Same.new (H := H3) (p := f) (o := .tup c.tup) nf
    have g4 : upd H3 f (.tup c.tup) f = some (.tup c.tup) := upd_same
    generalize upd H3 f (.tup c.tup) = H4 at s4 g4 ⊢
    have m4 := m3.same s4
    have bB : But m H H4 := bA.trans (b3.trans (But.of s4))
    clear s4 hL m3 b3 bA hD hmD m2 hB el nf nl
    first | refine sigN [some (.ref m), some (.int size), some (.ref f), none, none, none, none, none, none] (by rfl) ?_ | refine sig [some (.ref m), some (.int size), some (.ref f), none, none, none, none, none, none] (by rfl) ?_
    refine ⟨.ref f, rfl, f, c, rfl, tup_of g4, hm, fun H5 u s5 _ gu => ?_⟩
    first | refine sigN [some (.ref m), some (.int (size)), some (.ref f), none, some (.ref u), none, none, none, none] (by rfl) ?_ | refine sig [some (.ref m), some (.int (size)), some (.ref f), none, some (.ref u), none, none, none, none] (by rfl) ?_
    have gf := s5 _ _ g4
    have e0 : (!decide (V.int c.disc = V.int 0)) = decide (c.disc ≠ 0) := by
      rw [dec_int]
      by_cases h : c.disc = 0
      · simp [h]
      · simp [h]
    refine ⟨.ref f, rfl, .ref f, decide (c.disc ≠ 0), rfl, .inr ⟨f, c, rfl, tup_of gf, hm, rfl⟩, fun H6 s6 => ?_⟩
    refine ⟨_, .bool (decide (c.disc ≠ 0)), rfl, .bl _, rfl, by simp [PyData.depth], by simp [wt], ?_⟩
    have gf6 := s6 _ _ gf
    have gu6 := s6 _ _ gu
    refine ⟨.ref u, rfl, u, _, 6, .int c.disc, rfl, rfl, tup_of gu6, rfl, rfl, ?_⟩
    rw [e0]
    refine ⟨_, .bool (decide (c.disc ≠ 0)), rfl, .bl _, rfl, by simp [PyData.depth], by simp [wt], rfl, _, rfl, iteNS rfl ?_⟩
    have m6 := m4.same (s5.trans s6)
    have bC : But m H H6 := bB.trans (But.of (s5.trans s6))
    clear s5 s6 gf gu bB m4 g4
    refine ⟨fun σ H7 => Same H6 H7 ∧ ∃ v, σ = [some (.ref m), some (.int size), some (.ref f), none, some (.ref u), v, none, none, none], ?_, ?_⟩
    · refine ⟨.ref u, rfl, u, _, 6, .int c.disc, rfl, rfl, tup_of gu6, rfl, rfl, _, rfl, ?_⟩
      rw [e0]
      refine ite2 (fun h => ?_) (fun _ => ?_)
      · have h0 : c.disc ≠ 0 := of_decide_eq_true h
        have hc4 := ht.c4
        have hcc : B 500 (c.c4 * c.c4 * c.c4) := ((hc4.mul hc4).mul hc4).up (by decide)
        have hdd : B 500 c.disc := (disc_B hm).up (by decide)
        have hs := sg_ne (n := c.c4 * c.c4 * c.c4) h0
        have q1 := (quot_B hs (sg_dvd _ _) hcc).log (by decide)
        have q2 := (quot_B hs (sg_dvd2 _ _) hdd).log (by decide)
        refine ⟨.ref f, rfl, f, c.tup, c, rfl, tup_of gf6, .inl rfl, hm, fun H8 t1 s8 _ gt1 => ?_⟩
        refine ⟨.ref f, rfl, f, c, rfl, tup_of (s8 _ _ gf6), hm, h0, fun H9 t2 s9 _ gt2 => ?_⟩
        refine ⟨(by show 2 ≤ sizeLine; decide), fun l nl => ?_⟩
        have sa := Same.new (H := H9) (p := l) (o := .lst [.ref t1, .ref t2]) nl
        have ga : upd H9 l (.lst [.ref t1, .ref t2]) l = some (.lst [.ref t1, .ref t2]) := upd_same
        generalize upd H9 l (.lst [.ref t1, .ref t2]) = Ha at sa ga ⊢
        have ok2 : okD (.list [.tuple (numsD c), .tuple [.int ((c.c4 * c.c4 * c.c4).fdiv (sg (c.c4 * c.c4 * c.c4) c.disc)), .int (c.disc.fdiv (sg (c.c4 * c.c4 * c.c4) c.disc))]]) = true := by
          simp [okD, okAll, nums_ok hm, q1, q2]
        refine ⟨_, rfl, .ref l, .list [.tuple (numsD c), .tuple [.int ((c.c4 * c.c4 * c.c4).fdiv (sg (c.c4 * c.c4 * c.c4) c.disc)), .int (c.disc.fdiv (sg (c.c4 * c.c4 * c.c4) c.disc))]], rfl, .lst (lst_of ga) (.cons (.tup (tup_of (sa _ _ (s9 _ _ gt1))) (dp_nums c)) (.cons (.tup (tup_of (sa _ _ gt2)) (.cons (.int _) (.cons (.int _) .nil))) .nil)), ok2, by simp [PyData.depth, PyData.depthAll, numsD], by simp [wt, wtAll, numsD], ?_⟩
        have gu9 := sa _ _ (s9 _ _ (s8 _ _ gu6))
        have lt64 : c.c4.natAbs < 2 ^ 64 := hc4.up (n := 64) (by decide)
        refine ⟨.ref u, rfl, .ref u, rfl, u, _, 4, .int c.c4, rfl, rfl, tup_of gu9, rfl, _, _, rfl, rfl, ⟨by decide, by decide, lt64⟩, .ref u, rfl, u, _, 6, .int c.disc, rfl, rfl, tup_of gu9, rfl, c.c4 * c.c4 * c.c4, c.disc, cube _ _, h0, hcc, hdd, fun t3 nt3 => ?_⟩
        have sb := Same.new (H := Ha) (p := t3) (o := .tup [.int ((c.c4 * c.c4 * c.c4).fdiv (sg (c.c4 * c.c4 * c.c4) c.disc)), .int (c.disc.fdiv (sg (c.c4 * c.c4 * c.c4) c.disc))]) nt3
        have gb : upd Ha t3 (.tup [.int ((c.c4 * c.c4 * c.c4).fdiv (sg (c.c4 * c.c4 * c.c4) c.disc)), .int (c.disc.fdiv (sg (c.c4 * c.c4 * c.c4) c.disc))]) t3 = some (.tup [.int ((c.c4 * c.c4 * c.c4).fdiv (sg (c.c4 * c.c4 * c.c4) c.disc)), .int (c.disc.fdiv (sg (c.c4 * c.c4 * c.c4) c.disc))]) := upd_same
        generalize upd Ha t3 (.tup [.int ((c.c4 * c.c4 * c.c4).fdiv (sg (c.c4 * c.c4 * c.c4) c.disc)), .int (c.disc.fdiv (sg (c.c4 * c.c4 * c.c4) c.disc))]) = Hb at sb gb ⊢
        refine ⟨(by show 2 ≤ sizeLine; decide), fun l2 nl2 => ?_⟩
        have sc := Same.new (H := Hb) (p := l2) (o := .lst [.ref u, .ref t3]) nl2
        have gc : upd Hb l2 (.lst [.ref u, .ref t3]) l2 = some (.lst [.ref u, .ref t3]) := upd_same
        generalize upd Hb l2 (.lst [.ref u, .ref t3]) = Hc at sc gc ⊢
        refine ⟨.ref l2, .list [.tuple (numsD c), .tuple [.int ((c.c4 * c.c4 * c.c4).fdiv (sg (c.c4 * c.c4 * c.c4) c.disc)), .int (c.disc.fdiv (sg (c.c4 * c.c4 * c.c4) c.disc))]], rfl, .lst (lst_of gc) (.cons (.tup (tup_of (sc _ _ (sb _ _ gu9))) (dp_nums c)) (.cons (.tup (tup_of (sc _ _ gb)) (.cons (.int _) (.cons (.int _) .nil))) .nil)), ok2, by simp [PyData.depth, PyData.depthAll, numsD], by simp [wt, wtAll, numsD], rfl, _, rfl, iteNS rfl ?_⟩
        exact ⟨((((s8.trans s9).trans sa).trans sb).trans sc), _, rfl⟩
      · exact ⟨Same.refl _, _, rfl⟩
    rintro σ H7 ⟨s7, v, rfl⟩
    have m7 := m6.same s7
    have gf7 := s7 _ _ gf6
    have bD : But m H H7 := bC.trans (But.of s7)
    clear m6 gf6 gu6 bC s7
    refine ⟨_, rfl, m, cl, 4, n + 1 + 5, rfl, by decide, by decide, by omega, m7, fun H8 a2 b8 m8 a0 a1 => ?_⟩
    refine ⟨(by show 5 ≤ sizeLine; decide), fun st nst => ?_⟩
    have s9 := Same.new (H := H8) (p := st) (o := .tup [.int 0, .int a2, .int 0, .int 0, .int 0]) nst
    have g9 : upd H8 st (.tup [.int 0, .int a2, .int 0, .int 0, .int 0]) st = some (.tup [.int 0, .int a2, .int 0, .int 0, .int 0]) := upd_same
    generalize upd H8 st (.tup [.int 0, .int a2, .int 0, .int 0, .int 0]) = H9 at s9 g9 ⊢
    have m9 := m8.same s9
    refine ⟨.ref st, rfl, _, rfl, m, cl, 9, n + 1 + 5 + 1, rfl, by decide, by decide, by omega, m9, fun Ha r ba ma r0 r1 => ?_⟩
    refine ⟨_, rfl, m, cl, 9, n + 1 + 5 + 1 + 1, rfl, by decide, by decide, by omega, ma, fun Hb s2 bb mb s0 s1 => ?_⟩
    refine ⟨_, rfl, m, cl, 9, n + 1 + 5 + 1 + 1 + 1, rfl, by decide, by decide, by omega, mb, fun Hc t2 bc mc t0 t1 => ?_⟩
    have gst : Hc st = some (.tup (Cv.tup ⟨0, a2, 0, 0, 0⟩)) := bc.tup mb (bb.tup ma (ba.tup m9 g9))
    have l0 : B 5 (0 : Int) := B.lit (by decide)
    have la : B 5 a2 := B.between 4 (by omega) (by omega) (by decide)
    have lr : B 5 r := B.between 9 (by omega) (by omega) (by decide)
    have ls : B 5 s2 := B.between 9 (by omega) (by omega) (by decide)
    have lt : B 5 t2 := B.between 9 (by omega) (by omega) (by decide)
    refine ⟨st, ⟨0, a2, 0, 0, 0⟩, r, s2, t2, rfl, tup_of gst, l0, la, l0, l0, l0, lr, ls, lt, fun Hd bd sd _ gd => ?_⟩
    have md := mc.same sd
    have gfd : Hd f = some (.tup c.tup) := sd _ _ (bc.tup mb (bb.tup ma (ba.tup m9 (s9 _ _ (b8.tup m7 gf7)))))
    have bE : But m H Hd := bD.trans (b8.trans ((But.of s9).trans (ba.trans (bb.trans (bc.trans (But.of sd))))))
    have msm : (Cv.mv ⟨0, a2, 0, 0, 0⟩ r s2 t2).Sm := by
      have r3 : B 16 (r ^ 3) := lr.pow 3
      refine ⟨?_, ?_, ?_, ?_, ?_⟩
      · show B 20 (0 + 2 * s2)
        walk_at "bu"
      · show B 20 (a2 + 3 * r - s2 * 0 - s2 * s2)
        walk_at "bu"
      · show B 20 (0 + 2 * t2 + r * 0)
        walk_at "bu"
      · show B 20 (0 + 2 * a2 * r + 3 * r * r - s2 * 0 - 0 * (t2 + r * s2) - 2 * s2 * t2)
        rw [show 0 + 2 * a2 * r + 3 * r * r - s2 * 0 - 0 * (t2 + r * s2) - 2 * s2 * t2 = (a2 + a2) * r + (r * r + r * r + r * r) - (s2 + s2) * t2 by grind]
        walk_at "bu"
      · show B 20 (0 + 0 * r + a2 * r * r + r ^ 3 - t2 * (0 + t2 + 0 * r))
        rw [show 0 + 0 * r + a2 * r * r + r ^ 3 - t2 * (0 + t2 + 0 * r) = a2 * r * r + r ^ 3 - t2 * t2 by grind]
        walk_at "bu"
    refine ⟨.ref bd, rfl, _, rfl, .ref f, rfl, m, cl, f, c, n + 1 + 5 + 1 + 1 + 1 + 1, rfl, tup_of gfd, by omega, md, fun He v be me kd => ?_⟩
    refine ⟨(by show 2 ≤ sizeLine; decide), fun tp ntp => ?_⟩
    have sf := Same.new (H := He) (p := tp) (o := .tup [.ref bd, v]) ntp
    have gtp : upd He tp (.tup [.ref bd, v]) tp = some (.tup [.ref bd, v]) := upd_same
    generalize upd He tp (.tup [.ref bd, v]) = Hf at sf gtp ⊢
    have gbf : Hf bd = some (.tup (Cv.tup (Cv.mv ⟨0, a2, 0, 0, 0⟩ r s2 t2))) := sf _ _ (be.tup md gd)
    have kdf := Kd.same sf kd
    refine ⟨tp, rfl, ⟨_, tup_of gtp⟩, fun D2 hD2 => ?_⟩
    refine lc_tup (K := K) (a := tp) (xs := [.ref bd, v]) (fun i H2 => Same Hf H2 ∧ H2 D2 = some (.lst (List.replicate i (V.bl false)))) ⟨Same.new hD2, upd_same⟩ (fun i H2 _ z => tup_of (z.1 _ _ gtp)) (fun i x H2 hi z => ?_) (fun H2 z => ?_)
    · have one : Kd K H2 x 5 false ∧ false = false ∨ ∃ (p : Addr) (c : Cv), x = .ref p ∧ SqT K H2 p c.tup ∧ c.Sm ∧ false = decide (c.disc ≠ 0) := by
        match i, hi with
        | 0, hi =>
          obtain rfl := Option.some.inj hi
          refine .inr ⟨bd, _, rfl, tup_of (z.1 _ _ gbf), msm, ?_⟩
          rw [moved_disc]
          rfl
        | 1, hi =>
          obtain rfl := Option.some.inj hi
          exact .inl ⟨Kd.same z.1 kdf, rfl⟩
      have hi2 : i < 2 := (List.getElem?_eq_some_iff.mp hi).1
      refine ⟨rfl, x, rfl, x, false, rfl, one, fun H3 s3 => ⟨_, s3 _ _ z.2, ?_, Same.put (z.1.trans s3) hD2, ?_⟩⟩
      · rw [List.length_replicate]
        exact small1000 (by omega)
      · rw [upd_same, List.replicate_succ']
    · refine ⟨(by show 2 ≤ sizeLine; decide), fun l3 nl3 => ?_⟩
      have hd3 : (upd H2 l3 (.lst [.bl false, .bl false])) D2 = some (.lst [.bl false, .bl false]) := by
        rw [upd_ne (ne_of_none z.2 nl3)]
        exact z.2
      refine ⟨.list [.bool false, .bool false], .list [.bool false, .bool false], .lst (lst_of hd3) (.cons (.bl _) (.cons (.bl _) .nil)), .lst (lst_of upd_same) (.cons (.bl _) (.cons (.bl _) .nil)), by decide, by decide, ?_⟩
      have sfin : Same Hf (upd H2 l3 (.lst [.bl false, .bl false])) := Same.put z.1 (Same.free z.1 nl3)
      rw [show PyData.eqv (.list [.bool false, .bool false]) (.list [.bool false, .bool false]) = true by decide]
      exact q _ (bE.trans (be.trans ((But.of sf).trans (But.of sfin)))) ((me.same sf).same sfin)
end
end K05
set_option Elab.async false
set_option linter.all false
set_option maxRecDepth 100000
set_option maxHeartbeats 4000000
namespace K05
open PySem PySem.Spec PyProof.Rows L2 Gd K05M
local macro_rules | `(tactic| walk_at "bd") => `(tactic| (repeat (first | assumption | apply B.add | apply B.sub | apply B.mul | apply B.neg | exact B.lit (n := 12) (by decide))))
local macro_rules | `(tactic| walk_at "bu") => `(tactic| (apply B.up; walk_at "bd"; decide))
local macro_rules | `(tactic| walk_at "bnd") => `(tactic| (apply B.mulW; walk_at "bd"; decide))
section
variable {P : Program} {w : World} {K : PySem.W.Frag} {mg : Str → Option Value} {base : Heap}
/-! ### plain curves -/
/-- a triple of small numbers stands there -/
def Tri (H : Hp) (x : V) : Prop := ∃ (p : Addr) (a b d : Int), x = .ref p ∧ H p = some (.tup [.int a, .int b, .int d]) ∧ B 15 a ∧ B 15 b ∧ B 15 d
theorem Tri.same {H H' : Hp} {x : V} (s : Same H H') (h : Tri H x) : Tri H' x := by
  obtain ⟨p, a, b, d, e, h1, h2⟩ := h
  exact ⟨p, a, b, d, e, s _ _ h1, h2⟩
theorem Tri.but {m cl : Addr} {H H' : Hp} {n : Nat} {x : V} (s : But m H H') (hM : MAt H m cl n) (h : Tri H x) : Tri H' x := by
  obtain ⟨p, a, b, d, e, h1, h2⟩ := h
  exact ⟨p, a, b, d, e, s.tup hM h1, h2⟩
theorem plain_disc (a b d : Int) : (pl a b d).disc = 16 * d3 1 a b d := plainx a b d
def sp_law_plain_right (K : PySem.W.Frag) : Sp := fun vs H Q _ => ∃ (m cl : Addr) (n : Nat), vs = [.ref m] ∧ n ≤ 1000 ∧ MAt H m cl n ∧ ∀ H', But m H H' → MAt H' m cl (n + 7) → Q (.bl true) H'
abbrev s__law_plain_right : Stmt := topS 25
theorem sc__law_plain_right : FnScope ["m", "e", "f", "edge", "some", "value", "due", "part", "bad"] ["m"] (defScope s__law_plain_right) := ⟨rfl, rfl, rfl, by decide +kernel, rfl, by decide +kernel, by decide +kernel⟩
theorem k_law_plain_right (T : Tx K mg) (D : Df K mg "_law_plain_right" s__law_plain_right ["m"]) (c_law_of : Kl P w K mg base 2 "_law_of" (sp_law_of K)) (c_law_between : Kl P w K mg base 2 "_law_between" (sp_law_between K)) (c_is_plain : Kl P w K mg base 3 "is_plain" (sp_is_plain K)) (c_law_cubic_disc : Kl P w K mg base 1 "_law_cubic_disc" (sp_law_cubic_disc K)) : Kg P w K mg base 4 "_law_plain_right" (sp_law_plain_right K) := by
  have nd := sc__law_plain_right.nd
  refine Kg.by_body D sc__law_plain_right (fun vs H Q E h => ?_) (fun f cdv A outer s H vs Q E hgd hr h => ?_)
  · obtain ⟨_, _, _, rfl, _⟩ := h
    rfl
  · obtain ⟨m, cl, n, rfl, hn, hM, q⟩ := h
    have hu1 := hu_of hr
    refine ⟨_, (pss_cons (ps_par3 (i := 1) (j := 2) (l := 3) (by rfl) nd rfl rfl rfl (by decide) (by decide) (by decide) rfl rfl rfl (pa_cons (pe_k c_law_between  hr (by decide) (by rfl) (pa_cons (pv 0) (pa_cons pe_int pa_nil))) (pa_cons (pe_k c_law_between  hr (by decide) (by rfl) (pa_cons (pv 0) (pa_cons pe_int pa_nil))) (pa_cons (pe_k c_law_of  hr (by decide) (by rfl) (pa_cons (pv 0) (pa_cons (pe_lst (pa_cons pe_int (pa_cons pe_int (pa_cons pe_int (pa_cons pe_int pa_nil))))) pa_nil))) pa_nil))) (by rfl))
      (pss_cons (ps_set (i := 4) nd rfl (by first | exact Or.inl rfl | exact Or.inr rfl) (pe_lst (pa_cons (pe_tup (pa_cons (pe_op op_sub (pe_op op_mul (pe_un un_neg pe_int) (pv 1)) (pv 2)) (pa_cons (pe_op op_add (pe_op op_mulW (pv 1) (pv 1)) (pe_op op_mulW (pe_op op_mul pe_int (pv 1)) (pv 2))) (pa_cons (pe_op op_mulW (pe_op op_mulW (pe_un un_neg (pv 1)) (pv 1)) (pv 2)) pa_nil)))) (pa_cons (pe_tup (pa_cons (pe_k c_law_between  hr (by decide) (by rfl) (pa_cons (pv 0) (pa_cons pe_int pa_nil))) (pa_cons (pe_k c_law_between  hr (by decide) (by rfl) (pa_cons (pv 0) (pa_cons pe_int pa_nil))) (pa_cons (pe_k c_law_between  hr (by decide) (by rfl) (pa_cons (pv 0) (pa_cons pe_int pa_nil))) pa_nil)))) pa_nil))))
      (pss_cons (ps_set (i := 4) nd rfl (by first | exact Or.inl rfl | exact Or.inr rfl) (pe_op op_cat (pv 4) (pe_lst (pa_cons (pe_tup (pa_cons pe_int (pa_cons (pe_un un_neg (pv 3)) (pa_cons (pv 3) pa_nil)))) (pa_cons (pe_tup (pa_cons (pv 3) (pa_cons pe_int (pa_cons pe_int pa_nil)))) (pa_cons (pe_tup (pa_cons pe_int (pa_cons pe_int (pa_cons (pe_un un_neg (pv 3)) pa_nil)))) pa_nil))))))
      (pss_cons (ps_for PassesOwn.never rfl (pi_list (pv 4)) (pg_name (i := 5) nd rfl (by first | exact Or.inl rfl | exact Or.inr rfl)) (C8.pss_cut (ps_set (i := 6) nd rfl (by first | exact Or.inl rfl | exact Or.inr rfl) (pe_and (pe_cmpR op_ne (pe_k c_law_cubic_disc  hr (by decide) (by rfl) (pa_cons pe_int (pa_cons (pe_ix ix_tup (pv 5) pe_int (fun _ _ => rfl)) (pa_cons (pe_ix ix_tup (pv 5) pe_int (fun _ _ => rfl)) (pa_cons (pe_ix ix_tup (pv 5) pe_int (fun _ _ => rfl)) pa_nil))))) pe_int (nomark _)) (pe_one (pe_cmpR op_le (pe_callB (cr_max rfl) (by rfl) T.max (by decide +kernel) (pa_cons (pe_lc (own := [("part", 7)]) (g := gName 7) rfl nd (pi_tup (pv 5)) (blkOk_by (N := ["m", "e", "f", "edge", "some", "value", "due", "part", "bad"]) (sc := defScope s__law_plain_right) (by decide +kernel)) (fun _ _ _ _ _ => (pg_name (i := 7) nd rfl (by first | exact Or.inl rfl | exact Or.inr rfl))) (fun _ _ _ _ _ => pts_nil) (fun _ _ _ _ _ => (pe_callB call_abs (by rfl) T.abs (by decide +kernel) (pa_cons (pv 7) pa_nil)))) pa_nil)) pe_int (nomark _)))))
      (pss_one (ps_if (pt_cmpR op_ne (pe_callB (call_reprD hgd hr.units) (by rfl) T.repr (by decide +kernel) (pa_cons (pe_k c_is_plain  hr (by decide) (by rfl) (pa_cons (pv 5) pa_nil)) pa_nil)) (pe_callB (call_reprD hgd hr.units) (by rfl) T.repr (by decide +kernel) (pa_cons (pv 6) pa_nil)) (nomark _)) (pss_one (ps_ret pe_bl)) pss_nil))))
      (pss_cons (ps_set (i := 8) nd rfl (by first | exact Or.inl rfl | exact Or.inr rfl) (pe_k c_law_of  hr (by decide) (by rfl) (pa_cons (pv 0) (pa_cons (pe_lst (pa_cons (pe_tup (pa_cons pe_int (pa_cons pe_int pa_nil))) (pa_cons (pe_tup (pa_cons pe_int (pa_cons pe_int (pa_cons pe_int (pa_cons pe_int pa_nil))))) (pa_cons (pe_tup (pa_cons pe_bl (pa_cons pe_int (pa_cons pe_int pa_nil)))) (pa_cons (pe_lst (pa_cons pe_int (pa_cons (pe_un un_neg pe_int) (pa_cons pe_int pa_nil)))) (pa_cons pe_non (pa_cons pe_str (pa_cons (pe_tup (pa_cons pe_int (pa_cons (pe_tup (pa_cons pe_int (pa_cons pe_int pa_nil))) (pa_cons pe_int pa_nil)))) pa_nil)))))))) pa_nil))))
      (pss_one (ps_ret (pe_cmpR op_isBl (pe_k c_is_plain  hr (by decide) (by rfl) (pa_cons (pv 8) pa_nil)) pe_bl (nomark _))))))))), ?_⟩
    refine ⟨_, rfl, m, cl, 12, n, rfl, by decide, by decide, by omega, hM, fun H1 e b1 m1 e0 e1 => ?_⟩
    refine ⟨_, rfl, m, cl, 12, n + 1, rfl, by decide, by decide, by omega, m1, fun H2 f2 b2 m2 f0 f1 => ?_⟩
    refine ⟨_, rfl, (by show 4 ≤ sizeLine; decide), fun l nl => ?_⟩
    have s3 := Same.new (H := H2) (p := l) (o := .lst [.int 9999, .int 10000, .int 10001, .int 5]) nl
    have g3 : upd H2 l (.lst [.int 9999, .int 10000, .int 10001, .int 5]) l = some (.lst [.int 9999, .int 10000, .int 10001, .int 5]) := upd_same
    generalize upd H2 l (.lst [.int 9999, .int 10000, .int 10001, .int 5]) = H3 at s3 g3 ⊢
    have m3 := m2.same s3
    refine ⟨m, cl, l, _, n + 1 + 1, rfl, lst_of g3, (by show 0 < 4; decide), (by show 4 ≤ 1000; decide), by omega, m3, fun H4 z b4 m4 hz => ?_⟩
    have hz2 : ∃ k : Int, z = .int k ∧ 0 ≤ k ∧ k ≤ 10001 := by
      simp only [List.mem_cons, List.not_mem_nil, or_false] at hz
      rcases hz with rfl | rfl | rfl | rfl <;> exact ⟨_, rfl, by decide, by decide⟩
    obtain ⟨edge, rfl, z0, z1⟩ := hz2
    have bA : But m H H4 := b1.trans (b2.trans ((But.of s3).trans b4))
    clear hz s3 g3 m3 b1 b2 b4 nl
    refine ⟨_, _, _, rfl, ?_⟩
    first | refine sigN [some (.ref m), some (.int (e)), some (.int (f2)), some (.int (edge)), none, none, none, none, none] (by rfl) ?_ | refine sig [some (.ref m), some (.int (e)), some (.int (f2)), some (.int (edge)), none, none, none, none, none] (by rfl) ?_
    have be : B 4 e := B.between 12 (by omega) (by omega) (by decide)
    have bf : B 4 f2 := B.between 12 (by omega) (by omega) (by decide)
    have bg : B 14 edge := B.between 10001 (by omega) (by omega) (by decide)
    refine ⟨_, rfl, _, rfl, _, _, rfl, rfl, (Or.inl ⟨by decide, by decide⟩), _, rfl, _, _, rfl, rfl, _, rfl, _, rfl, _, _, rfl, rfl, (by walk_at "bnd"), _, rfl, _, _, rfl, rfl, (Or.inl ⟨by decide, by decide⟩), _, rfl, _, _, rfl, rfl, (by walk_at "bnd"), _, _, rfl, rfl, _, rfl, _, rfl, _, rfl, _, _, rfl, rfl, (by walk_at "bnd"), _, rfl, _, _, rfl, rfl, (by walk_at "bnd"), (by show 3 ≤ sizeLine; decide), fun t1 nt1 => ?_⟩
    have s5 := Same.new (H := H4) (p := t1) (o := .tup [.int (-2 * e - f2), .int (e * e + 2 * e * f2), .int (-e * e * f2)]) nt1
    have g5 : upd H4 t1 (.tup [.int (-2 * e - f2), .int (e * e + 2 * e * f2), .int (-e * e * f2)]) t1 = some (.tup [.int (-2 * e - f2), .int (e * e + 2 * e * f2), .int (-e * e * f2)]) := upd_same
    generalize upd H4 t1 (.tup [.int (-2 * e - f2), .int (e * e + 2 * e * f2), .int (-e * e * f2)]) = H5 at s5 g5 ⊢
    have e2 : B 5 (2 * e) := by
      unfold B at *
      omega
    have q1 : Tri H5 (.ref t1) := ⟨t1, _, _, _, rfl, g5, by unfold B at *; omega, by walk_at "bu", by walk_at "bu"⟩
    have m5 := m4.same s5
    refine ⟨_, rfl, m, cl, 50, n + 1 + 1 + 1, rfl, by decide, by decide, by omega, m5, fun H6 x1 b6 m6 x10 x11 => ?_⟩
    refine ⟨_, rfl, m, cl, 50, n + 1 + 1 + 1 + 1, rfl, by decide, by decide, by omega, m6, fun H7 x2 b7 m7 x20 x21 => ?_⟩
    refine ⟨_, rfl, m, cl, 50, n + 1 + 1 + 1 + 1 + 1, rfl, by decide, by decide, by omega, m7, fun H8 x3 b8 m8 x30 x31 => ?_⟩
    refine ⟨(by show 3 ≤ sizeLine; decide), fun t2 nt2 => ?_⟩
    have s9 := Same.new (H := H8) (p := t2) (o := .tup [.int x1, .int x2, .int x3]) nt2
    have g9 : upd H8 t2 (.tup [.int x1, .int x2, .int x3]) t2 = some (.tup [.int x1, .int x2, .int x3]) := upd_same
    generalize upd H8 t2 (.tup [.int x1, .int x2, .int x3]) = H9 at s9 g9 ⊢
    have q2 : Tri H9 (.ref t2) := ⟨t2, _, _, _, rfl, g9, B.between 50 (by omega) (by omega) (by decide), B.between 50 (by omega) (by omega) (by decide), B.between 50 (by omega) (by omega) (by decide)⟩
    have q1' := (((q1.but b6 m5).but b7 m6).but b8 m7).same s9
    refine ⟨(by show 2 ≤ sizeLine; decide), fun l1 nl1 => ?_⟩
    have sa := Same.new (H := H9) (p := l1) (o := .lst [.ref t1, .ref t2]) nl1
    have ga : upd H9 l1 (.lst [.ref t1, .ref t2]) l1 = some (.lst [.ref t1, .ref t2]) := upd_same
    generalize upd H9 l1 (.lst [.ref t1, .ref t2]) = Ha at sa ga ⊢
    have bB : But m H Ha := bA.trans ((But.of s5).trans (b6.trans (b7.trans (b8.trans (But.of (s9.trans sa))))))
    have ma := (m8.same s9).same sa
    have q1a := q1'.same sa
    have q2a := q2.same sa
    clear bA s5 b6 b7 b8 s9 sa g5 g9 q1 q2 q1' m5 m6 m7 m8 m4 m2 m1 hM
    first | refine sigN [some (.ref m), some (.int (e)), some (.int (f2)), some (.int (edge)), some (.ref l1), none, none, none, none] (by rfl) ?_ | refine sig [some (.ref m), some (.int (e)), some (.int (f2)), some (.int (edge)), some (.ref l1), none, none, none, none] (by rfl) ?_
    refine ⟨.ref l1, rfl, ?_⟩
    refine ⟨_, rfl, _, rfl, _, rfl, (by show 3 ≤ sizeLine; decide), fun t3 nt3 => ?_⟩
    have sb := Same.new (H := Ha) (p := t3) (o := .tup [.int 0, .int (-edge), .int edge]) nt3
    have gb : upd Ha t3 (.tup [.int 0, .int (-edge), .int edge]) t3 = some (.tup [.int 0, .int (-edge), .int edge]) := upd_same
    generalize upd Ha t3 (.tup [.int 0, .int (-edge), .int edge]) = Hb at sb gb ⊢
    refine ⟨_, rfl, (by show 3 ≤ sizeLine; decide), fun t4 nt4 => ?_⟩
    have sc := Same.new (H := Hb) (p := t4) (o := .tup [.int edge, .int 1, .int 1]) nt4
    have gc : upd Hb t4 (.tup [.int edge, .int 1, .int 1]) t4 = some (.tup [.int edge, .int 1, .int 1]) := upd_same
    generalize upd Hb t4 (.tup [.int edge, .int 1, .int 1]) = Hc at sc gc ⊢
    refine ⟨_, rfl, _, rfl, (by show 3 ≤ sizeLine; decide), fun t5 nt5 => ?_⟩
    have sd := Same.new (H := Hc) (p := t5) (o := .tup [.int 0, .int 1, .int (-edge)]) nt5
    have gd : upd Hc t5 (.tup [.int 0, .int 1, .int (-edge)]) t5 = some (.tup [.int 0, .int 1, .int (-edge)]) := upd_same
    generalize upd Hc t5 (.tup [.int 0, .int 1, .int (-edge)]) = Hd at sd gd ⊢
    refine ⟨(by show 3 ≤ sizeLine; decide), fun l2 nl2 => ?_⟩
    have se := Same.new (H := Hd) (p := l2) (o := .lst [.ref t3, .ref t4, .ref t5]) nl2
    have ge : upd Hd l2 (.lst [.ref t3, .ref t4, .ref t5]) l2 = some (.lst [.ref t3, .ref t4, .ref t5]) := upd_same
    generalize upd Hd l2 (.lst [.ref t3, .ref t4, .ref t5]) = He at se ge ⊢
    have s1e := ((sb.trans sc).trans sd).trans se
    refine ⟨l1, l2, _, _, rfl, rfl, s1e _ _ ga, ge, (by show 2 + 3 ≤ sizeLine; decide), fun l3 nl3 => ?_⟩
    have sf := Same.new (H := He) (p := l3) (o := .lst ([.ref t1, .ref t2] ++ [.ref t3, .ref t4, .ref t5])) nl3
    have gf : upd He l3 (.lst ([.ref t1, .ref t2] ++ [.ref t3, .ref t4, .ref t5])) l3 = some (.lst ([.ref t1, .ref t2] ++ [.ref t3, .ref t4, .ref t5])) := upd_same
    generalize upd He l3 (.lst ([.ref t1, .ref t2] ++ [.ref t3, .ref t4, .ref t5])) = Hf at sf gf ⊢
    have s1f := s1e.trans sf
    have one : B 15 (1 : Int) := B.lit (by decide)
    have nul : B 15 (0 : Int) := B.lit (by decide)
    have bg15 : B 15 edge := bg.up (by decide)
    have all5 : ∀ x ∈ [V.ref t1, .ref t2, .ref t3, .ref t4, .ref t5], Tri Hf x := by
      intro x hx
      simp only [List.mem_cons, List.not_mem_nil, or_false] at hx
      rcases hx with rfl | rfl | rfl | rfl | rfl
      · exact q1a.same s1f
      · exact q2a.same s1f
      · exact ⟨t3, _, _, _, rfl, sf _ _ (se _ _ (sd _ _ (sc _ _ gb))), nul, bg15.neg, bg15⟩
      · exact ⟨t4, _, _, _, rfl, sf _ _ (se _ _ (sd _ _ gc)), bg15, one, one⟩
      · exact ⟨t5, _, _, _, rfl, sf _ _ (se _ _ gd), nul, one, bg15.neg⟩
    have bC : But m H Hf := bB.trans (But.of s1f)
    have mf := ma.same s1f
    clear s1e s1f sb sc sd se sf ge gb gc gd ga q1a q2a bB ma
    first | refine sigN [some (.ref m), some (.int (e)), some (.int (f2)), some (.int (edge)), some (.ref l3), none, none, none, none] (by rfl) ?_ | refine sig [some (.ref m), some (.int (e)), some (.int (f2)), some (.int (edge)), some (.ref l3), none, none, none, none] (by rfl) ?_
    refine ⟨.ref l3, rfl, l3, rfl, ⟨_, lst_of gf⟩, for_list (K := K) (a := l3) (xs := [.ref t1, .ref t2, .ref t3, .ref t4, .ref t5]) (fun i σ H2 => Same Hf H2 ∧ ∃ v5 v6 : Option V, σ = [some (.ref m), some (.int e), some (.int f2), some (.int edge), some (.ref l3), v5, v6, none, none]) ⟨Same.refl _, none, none, rfl⟩ (fun i σ H2 _ z => lst_of (z.1 _ _ gf)) ?_ ?_⟩
    · rintro i x σ Hg hi ⟨sg1, v5, v6, rfl⟩
      obtain ⟨p, a, b, d, rfl, hp, ha, hb, hd⟩ := (all5 x (List.mem_of_getElem? hi)).same sg1
      have hsm : (pl a b d).Sm := ⟨(show B 20 (0 : Int) from B.lit (by decide)), ha.up (by decide), (show B 20 (0 : Int) from B.lit (by decide)), hb.up (by decide), hd.up (by decide)⟩
      refine ⟨fun σ H3 => Same Hg H3 ∧ σ = [some (.ref m), some (.int e), some (.int f2), some (.int edge), some (.ref l3), some (.ref p), some (.bl (decide (a.natAbs ≤ 10000 ∧ b.natAbs ≤ 10000 ∧ d.natAbs ≤ 10000) && decide ((pl a b d).disc ≠ 0))), none, none], ?_, ?_⟩
      · refine ⟨.ref p, rfl, p, _, 0, .int a, rfl, rfl, tup_of hp, rfl, .ref p, rfl, p, _, 1, .int b, rfl, rfl, tup_of hp, rfl, .ref p, rfl, p, _, 2, .int d, rfl, rfl, tup_of hp, rfl, 1, a, b, d, rfl, B.lit (by decide), ha.up (by decide), hb.up (by decide), hd.up (by decide), rfl, _, rfl, ?_⟩
        rw [dec_int]
        by_cases hz : d3 1 a b d = 0
        · refine iteN (by simp [hz]) ?_
          refine ⟨Same.refl _, ?_⟩
          rw [plain_disc, hz]
          simp
        · refine iteY (by simp [hz]) ?_
          refine ⟨.ref p, rfl, p, rfl, ⟨_, tup_of hp⟩, fun D hD => ?_⟩
          refine lc_tup (K := K) (a := p) (xs := [V.int a, V.int b, V.int d]) (fun i H2 => Same Hg H2 ∧ H2 D = some (.lst (([(a.natAbs : Int), (b.natAbs : Int), (d.natAbs : Int)].take i).map V.int))) ⟨Same.new hD, upd_same⟩ (fun i H2 _ z => tup_of (z.1 _ _ hp)) (fun i x H2 hi z => ?_) (fun H2 z => ?_)
          · match i, hi with
            | 0, hi =>
              obtain rfl := Option.some.inj hi
              refine ⟨rfl, _, rfl, a, rfl, _, z.2, (by show 0 < sizeLine; decide), Same.put z.1 hD, ?_⟩
              rw [abs_eq, upd_same]
              rfl
            | 1, hi =>
              obtain rfl := Option.some.inj hi
              refine ⟨rfl, _, rfl, b, rfl, _, z.2, (by show 1 < sizeLine; decide), Same.put z.1 hD, ?_⟩
              rw [abs_eq, upd_same]
              rfl
            | 2, hi =>
              obtain rfl := Option.some.inj hi
              refine ⟨rfl, _, rfl, d, rfl, _, z.2, (by show 2 < sizeLine; decide), Same.put z.1 hD, ?_⟩
              rw [abs_eq, upd_same]
              rfl
          · refine ⟨D, [(a.natAbs : Int), (b.natAbs : Int), (d.natAbs : Int)], rfl, .inl (.inl z.2), (by show 0 < 3; decide), fun mx hm1 hm2 => ?_⟩
            have g : ∀ y ∈ [(a.natAbs : Int), (b.natAbs : Int), (d.natAbs : Int)], y ≤ mx := hm2
            have ga := g a.natAbs (by simp)
            have gb := g b.natAbs (by simp)
            have gd := g d.natAbs (by simp)
            simp only [List.mem_cons, List.not_mem_nil, or_false] at hm1
            refine ⟨mx, 10000, rfl, rfl, z.1, ?_⟩
            have h0 : (pl a b d).disc ≠ 0 := by
              rw [plain_disc]
              omega
            have er : decide (mx ≤ 10000) = (decide (a.natAbs ≤ 10000 ∧ b.natAbs ≤ 10000 ∧ d.natAbs ≤ 10000) && decide ((pl a b d).disc ≠ 0)) := by
              rw [decide_eq_true h0, Bool.and_true]
              by_cases hh : mx ≤ 10000
              · rw [decide_eq_true hh, decide_eq_true (show a.natAbs ≤ 10000 ∧ b.natAbs ≤ 10000 ∧ d.natAbs ≤ 10000 by omega)]
              · rw [decide_eq_false hh, decide_eq_false (show ¬ (a.natAbs ≤ 10000 ∧ b.natAbs ≤ 10000 ∧ d.natAbs ≤ 10000) by omega)]
            rw [← er]
            rfl
      · rintro σ Hh ⟨sh, rfl⟩
        refine ⟨.ref p, rfl, .ref p, _, rfl, .inr ⟨p, a, b, d, rfl, tup_of (sh _ _ hp), hsm, rfl⟩, fun Hi si => ?_⟩
        refine ⟨_, .bool _, rfl, .bl _, rfl, by simp [PyData.depth], by simp [wt], _, rfl, _, .bool _, rfl, .bl _, rfl, by simp [PyData.depth], by simp [wt], rfl, _, rfl, iteNS rfl ?_⟩
        exact ⟨(sg1.trans sh).trans si, _, _, rfl⟩
    · rintro σ Hg ⟨sg1, v5, v6, rfl⟩
      have mg1 := mf.same sg1
      have bD : But m H Hg := bC.trans (But.of sg1)
      clear mf bC gf all5 sg1
      refine ⟨_, rfl, (by show 2 ≤ sizeLine; decide), fun u1 nu1 => ?_⟩
      have sh1 := Same.new (H := Hg) (p := u1) (o := .tup [.int 1, .int 2]) nu1
      have gh1 : upd Hg u1 (.tup [.int 1, .int 2]) u1 = some (.tup [.int 1, .int 2]) := upd_same
      generalize upd Hg u1 (.tup [.int 1, .int 2]) = Hh at sh1 gh1 ⊢
      refine ⟨(by show 4 ≤ sizeLine; decide), fun u2 nu2 => ?_⟩
      have sh2 := Same.new (H := Hh) (p := u2) (o := .tup [.int 1, .int 2, .int 3, .int 4]) nu2
      have gh2 : upd Hh u2 (.tup [.int 1, .int 2, .int 3, .int 4]) u2 = some (.tup [.int 1, .int 2, .int 3, .int 4]) := upd_same
      generalize upd Hh u2 (.tup [.int 1, .int 2, .int 3, .int 4]) = Hi at sh2 gh2 ⊢
      refine ⟨(by show 3 ≤ sizeLine; decide), fun u3 nu3 => ?_⟩
      have sh3 := Same.new (H := Hi) (p := u3) (o := .tup [.bl true, .int 1, .int 1]) nu3
      have gh3 : upd Hi u3 (.tup [.bl true, .int 1, .int 1]) u3 = some (.tup [.bl true, .int 1, .int 1]) := upd_same
      generalize upd Hi u3 (.tup [.bl true, .int 1, .int 1]) = Hj at sh3 gh3 ⊢
      refine ⟨_, rfl, (by show 3 ≤ sizeLine; decide), fun u4 nu4 => ?_⟩
      have sh4 := Same.new (H := Hj) (p := u4) (o := .lst [.int 0, .int (-1), .int 0]) nu4
      have gh4 : upd Hj u4 (.lst [.int 0, .int (-1), .int 0]) u4 = some (.lst [.int 0, .int (-1), .int 0]) := upd_same
      generalize upd Hj u4 (.lst [.int 0, .int (-1), .int 0]) = Hk at sh4 gh4 ⊢
      refine ⟨(by show 2 ≤ sizeLine; decide), fun u5 nu5 => ?_⟩
      have sh5 := Same.new (H := Hk) (p := u5) (o := .tup [.int 1, .int 1]) nu5
      have gh5 : upd Hk u5 (.tup [.int 1, .int 1]) u5 = some (.tup [.int 1, .int 1]) := upd_same
      generalize upd Hk u5 (.tup [.int 1, .int 1]) = Hl at sh5 gh5 ⊢
      refine ⟨(by show 3 ≤ sizeLine; decide), fun u6 nu6 => ?_⟩
      have sh6 := Same.new (H := Hl) (p := u6) (o := .tup [.int 0, .ref u5, .int 0]) nu6
      have gh6 : upd Hl u6 (.tup [.int 0, .ref u5, .int 0]) u6 = some (.tup [.int 0, .ref u5, .int 0]) := upd_same
      generalize upd Hl u6 (.tup [.int 0, .ref u5, .int 0]) = Hm at sh6 gh6 ⊢
      refine ⟨(by show 7 ≤ sizeLine; decide), fun u7 nu7 => ?_⟩
      have sh7 := Same.new (H := Hm) (p := u7) (o := .lst [.ref u1, .ref u2, .ref u3, .ref u4, .non, .str "abc", .ref u6]) nu7
      have gh7 : upd Hm u7 (.lst [.ref u1, .ref u2, .ref u3, .ref u4, .non, .str "abc", .ref u6]) u7 = some (.lst [.ref u1, .ref u2, .ref u3, .ref u4, .non, .str "abc", .ref u6]) := upd_same
      generalize upd Hm u7 (.lst [.ref u1, .ref u2, .ref u3, .ref u4, .non, .str "abc", .ref u6]) = Hn at sh7 gh7 ⊢
      have sAll := (((((sh1.trans sh2).trans sh3).trans sh4).trans sh5).trans sh6).trans sh7
      have mn := mg1.same sAll
      refine ⟨m, cl, u7, _, n + 1 + 1 + 1 + 1 + 1 + 1, rfl, lst_of gh7, (by show 0 < 7; decide), (by show 7 ≤ 1000; decide), by omega, mn, fun Hz v bz mz hv => ?_⟩
      have key : Kd K Hn v 3 false := by
        simp only [List.mem_cons, List.not_mem_nil, or_false] at hv
        rcases hv with rfl | rfl | rfl | rfl | rfl | rfl | rfl
        · exact .long u1 _ rfl (tup_of (sh7 _ _ (sh6 _ _ (sh5 _ _ (sh4 _ _ (sh3 _ _ (sh2 _ _ gh1))))))) (by show (2 : Int) ≠ 3; decide)
        · exact .long u2 _ rfl (tup_of (sh7 _ _ (sh6 _ _ (sh5 _ _ (sh4 _ _ (sh3 _ _ gh2)))))) (by show (4 : Int) ≠ 3; decide)
        · refine kd_bent (T := "bool") (o := .bl true) (by decide) (.bl _) (fun i z => by cases z) (tup_of (sh7 _ _ (sh6 _ _ (sh5 _ _ (sh4 _ _ gh3))))) rfl (by show 3 ≤ 100; decide) (by simp) (fun x hx => ?_)
          simp only [List.mem_cons, List.not_mem_nil, or_false] at hx
          rcases hx with rfl | rfl | rfl
          · exact Or.inl rfl
          · exact Or.inr ⟨_, rfl⟩
          · exact Or.inr ⟨_, rfl⟩
        · exact .other (.lst (sh7 _ _ (sh6 _ _ (sh5 _ _ gh4))))
        · exact .other .non
        · exact .other (.str _)
        · refine kd_bent (T := "tuple") (o := .ref u5) (by decide) (.tup (tup_of (sh7 _ _ (sh6 _ _ gh5)))) (fun i z => by cases z) (tup_of (sh7 _ _ gh6)) rfl (by show 3 ≤ 100; decide) (by simp) (fun x hx => ?_)
          simp only [List.mem_cons, List.not_mem_nil, or_false] at hx
          rcases hx with rfl | rfl | rfl
          · exact Or.inr ⟨_, rfl⟩
          · exact Or.inl rfl
          · exact Or.inr ⟨_, rfl⟩
      refine ⟨_, rfl, v, false, rfl, .inl ⟨Kd.but bz mn mz key, rfl⟩, fun Hy sy => ?_⟩
      refine ⟨false, false, rfl, rfl, ?_⟩
      exact q Hy (bD.trans ((But.of sAll).trans (bz.trans (But.of sy)))) (mz.same sy)
/-! ### the law -/
def sp_law (K : PySem.W.Frag) : Sp := fun vs H Q _ => ∃ (a : Addr) (ns : List Int), vs = [.ref a] ∧ SqL K H a (ns.map V.int) ∧ ns.length ≤ 63 ∧ ∀ H', Q (.bl true) H'
def cc : Cv := ⟨0, 0, 1, -1, 0⟩
theorem cc_nums : numsD cc = [.int 0, .int (-2), .int 1, .int (-1), .int 48, .int (-216), .int 37] := rfl
theorem cc_sm : cc.Sm := ⟨(show B 20 (0 : Int) from B.lit (by decide)), (show B 20 (0 : Int) from B.lit (by decide)), (show B 20 (1 : Int) from B.lit (by decide)), (show B 20 (-1 : Int) from B.lit (by decide)), (show B 20 (0 : Int) from B.lit (by decide))⟩
abbrev s_law : Stmt := topS 26
theorem sc_law : FnScope ["script", "k", "m"] ["script"] (defScope s_law) := ⟨rfl, rfl, rfl, by decide +kernel, rfl, by decide +kernel, by decide +kernel⟩
theorem k_law {fl : Addr} {fdl : FuncData} (T : Tx K mg) (Fl : Fun K "law" "law" s_law fl fdl) (c_law_begun : Kl P w K mg base 1 "_law_begun" (sp_law_begun K)) (c_numbers_of : Kl P w K mg base 2 "numbers_of" (sp_numbers_of K)) (c_law_curve_right : Kg P w K mg base 4 "_law_curve_right" (sp_law_curve_right K)) (c_law_plain_right : Kg P w K mg base 4 "_law_plain_right" (sp_law_plain_right K)) : FnG P w K mg base 5 fl fdl ["script"] (sp_law K) := by
  have nd := sc_law.nd
  refine FnG.by_body Fl sc_law (fun vs H Q E h => ?_) (fun cdv A outer s H vs Q E hgd hr h => ?_)
  · obtain ⟨_, _, rfl, _⟩ := h
    rfl
  · obtain ⟨a, ns, rfl, hx, hl, q⟩ := h
    have hu1 := hu_of hr
    refine ⟨_, (pss_cons (ps_for PassesOwn.never rfl (pi_range1 (by rfl) T.range (pa_cons (pe_op op_add pe_int (pe_callB (call_min2 rfl) (by rfl) T.min (by decide +kernel) (pa_cons (pe_callB call_len_seq (by rfl) T.len (by decide +kernel) (pa_cons (pv 0) pa_nil)) (pa_cons pe_int pa_nil)))) pa_nil)) (pg_name (i := 1) nd rfl (by first | exact Or.inl rfl | exact Or.inr rfl)) (pss_cons (ps_set (i := 2) nd rfl (by first | exact Or.inl rfl | exact Or.inr rfl) (pe_k c_law_begun  hr (by decide) (by rfl) (pa_cons (pv 0) (pa_cons (pv 1) pa_nil))))
      (pss_one (ps_if (PW.pt (pw_or (pt_not (pt_val (pe_g c_law_curve_right hgd hr (by decide) (by rfl) (pa_cons (pv 2) pa_nil)))) (pw_or1 (pt_not (pt_val (pe_g c_law_plain_right hgd hr (by decide) (by rfl) (pa_cons (pv 2) pa_nil))))))) (pss_one (ps_ret pe_bl)) pss_nil))))
      (pss_one (ps_ret (pe_cmpR op_eq (pe_callB (call_reprD hgd hr.units) (by rfl) T.repr (by decide +kernel) (pa_cons (pe_k c_numbers_of  hr (by decide) (by rfl) (pa_cons (pe_tup (pa_cons pe_int (pa_cons pe_int (pa_cons pe_int (pa_cons (pe_un un_neg pe_int) (pa_cons pe_int pa_nil)))))) pa_nil)) pa_nil)) (pe_callB (call_reprD hgd hr.units) (by rfl) T.repr (by decide +kernel) (pa_cons (pe_tup (pa_cons pe_int (pa_cons (pe_un un_neg pe_int) (pa_cons pe_int (pa_cons (pe_un un_neg pe_int) (pa_cons pe_int (pa_cons (pe_un un_neg pe_int) (pa_cons pe_int pa_nil)))))))) pa_nil)) (nomark _))))), ?_⟩
    obtain ⟨j, hj, j0, j1⟩ : ∃ j : Int, (2 : Int) + (if (2 : Int) < ((ns.map V.int).length : Int) then 2 else ((ns.map V.int).length : Int)) = j ∧ 0 ≤ j ∧ j ≤ 4 := ⟨_, rfl, by split <;> omega, by split <;> omega⟩
    refine ⟨.ref a, rfl, a, _, rfl, .inl hx, _, _, rfl, _, _, rfl, rfl, j, ?_, by omega, by omega, ?_⟩
    · rw [← hj]
    refine for_range (lo := 0) (n := j.toNat) (fun i σ H2 => Same H H2 ∧ ∃ v1 v2 : Option V, σ = [some (.ref a), v1, v2]) ⟨Same.refl _, none, none, rfl⟩ ?_ ?_
    · rintro i σ H2 hi ⟨s2, v1, v2, rfl⟩
      refine ⟨.ref a, rfl, _, rfl, a, _, ns, rfl, s2.seq hx, hl, by omega, by omega, fun H3 m cl s3 nm ncl hM => ?_⟩
      refine ⟨.ref m, rfl, m, cl, 0, rfl, by decide, hM, fun H4 b4 m4 => ⟨_, rfl, ?_⟩⟩
      refine iteF ?_
      refine ⟨.ref m, rfl, m, cl, 0 + 13, rfl, by decide, m4, fun H5 b5 m5 => ⟨_, rfl, ?_⟩⟩
      refine iteF ?_
      exact ⟨s2.trans (But.same s3 (b4.trans b5) nm), _, _, rfl⟩
    · rintro σ H2 ⟨s2, v1, v2, rfl⟩
      refine ⟨_, rfl, (by show 5 ≤ sizeLine; decide), fun t nt => ?_⟩
      have s3 := Same.new (H := H2) (p := t) (o := .tup [.int 0, .int 0, .int 1, .int (-1), .int 0]) nt
      have g3 : upd H2 t (.tup [.int 0, .int 0, .int 1, .int (-1), .int 0]) t = some (.tup [.int 0, .int 0, .int 1, .int (-1), .int 0]) := upd_same
      generalize upd H2 t (.tup [.int 0, .int 0, .int 1, .int (-1), .int 0]) = H3 at s3 g3 ⊢
      refine ⟨t, cc.tup, cc, rfl, tup_of g3, .inl rfl, cc_sm, fun H4 u s4 _ gu => ?_⟩
      refine ⟨.ref u, .tuple (numsD cc), rfl, .tup (tup_of gu) (dp_nums cc), by simp [okD, nums_ok cc_sm], by simp [PyData.depth, PyData.depthAll, numsD], by simp [wt, wtAll, numsD], ?_⟩
      refine ⟨_, rfl, _, rfl, _, rfl, (by show 7 ≤ sizeLine; decide), fun z nz => ?_⟩
      have s5 := Same.new (H := H4) (p := z) (o := .tup [.int 0, .int (-2), .int 1, .int (-1), .int 48, .int (-216), .int 37]) nz
      have gz : upd H4 z (.tup [.int 0, .int (-2), .int 1, .int (-1), .int 48, .int (-216), .int 37]) z = some (.tup [.int 0, .int (-2), .int 1, .int (-1), .int 48, .int (-216), .int 37]) := upd_same
      generalize upd H4 z (.tup [.int 0, .int (-2), .int 1, .int (-1), .int 48, .int (-216), .int 37]) = H5 at s5 gz ⊢
      have dz : Dp K H5 (.ref z) (.tuple (numsD cc)) := by
        rw [cc_nums]
        exact .tup (tup_of gz) (.cons (.int _) (.cons (.int _) (.cons (.int _) (.cons (.int _) (.cons (.int _) (.cons (.int _) (.cons (.int _) .nil)))))))
      refine ⟨.ref z, .tuple (numsD cc), rfl, dz, by simp [okD, nums_ok cc_sm], by simp [PyData.depth, PyData.depthAll, numsD], by simp [wt, wtAll, numsD], rfl, ?_⟩
      rw [decide_eq_true rfl]
      exact q H5
end
end K05
set_option Elab.async false
set_option linter.all false
set_option maxRecDepth 100000
set_option maxHeartbeats 4000000
namespace K05
open PySem PySem.Spec PyProof.Rows L2 Gd
theorem all_mk {P : Program} {w : World} {K : PySem.W.Frag} {h : Heap} {mg : Str → Option Value} {fa : Addr} (X : K.In h) (G : h.Ns mainGlobals mg) (hfa : mg "law" = some (.ref fa))
    {f2 : Addr} {od2 an2 : Option Addr} {sl2 : Array (Option Value)} {oc2 kV2 dc2 pm2 cd2 ct2 : Value}
    {f3 : Addr} {od3 an3 : Option Addr} {sl3 : Array (Option Value)} {oc3 kV3 dc3 pm3 cd3 ct3 : Value}
    {f4 : Addr} {od4 an4 : Option Addr} {sl4 : Array (Option Value)} {oc4 kV4 dc4 pm4 cd4 ct4 : Value}
    {f7 : Addr} {od7 an7 : Option Addr} {sl7 : Array (Option Value)} {oc7 kV7 dc7 pm7 cd7 ct7 : Value}
    {f8 : Addr} {od8 an8 : Option Addr} {sl8 : Array (Option Value)} {oc8 kV8 dc8 pm8 cd8 ct8 : Value}
    {f9 : Addr} {od9 an9 : Option Addr} {sl9 : Array (Option Value)} {oc9 kV9 dc9 pm9 cd9 ct9 : Value}
    {f10 : Addr} {od10 an10 : Option Addr} {sl10 : Array (Option Value)} {oc10 kV10 dc10 pm10 cd10 ct10 : Value}
    {f11 : Addr} {od11 an11 : Option Addr} {sl11 : Array (Option Value)} {oc11 kV11 dc11 pm11 cd11 ct11 : Value}
    {f12 : Addr} {od12 an12 : Option Addr} {sl12 : Array (Option Value)} {oc12 kV12 dc12 pm12 cd12 ct12 : Value}
    {f14 : Addr} {od14 an14 : Option Addr} {sl14 : Array (Option Value)} {oc14 kV14 dc14 pm14 cd14 ct14 : Value}
    {f15 : Addr} {od15 an15 : Option Addr} {sl15 : Array (Option Value)} {oc15 kV15 dc15 pm15 cd15 ct15 : Value}
    {f16 : Addr} {od16 an16 : Option Addr} {sl16 : Array (Option Value)} {oc16 kV16 dc16 pm16 cd16 ct16 : Value}
    {f17 : Addr} {od17 an17 : Option Addr} {sl17 : Array (Option Value)} {oc17 kV17 dc17 pm17 cd17 ct17 : Value}
    {f18 : Addr} {od18 an18 : Option Addr} {sl18 : Array (Option Value)} {oc18 kV18 dc18 pm18 cd18 ct18 : Value}
    {f19 : Addr} {od19 an19 : Option Addr} {sl19 : Array (Option Value)} {oc19 kV19 dc19 pm19 cd19 ct19 : Value}
    {f20 : Addr} {od20 an20 : Option Addr} {sl20 : Array (Option Value)} {oc20 kV20 dc20 pm20 cd20 ct20 : Value}
    {f21 : Addr} {od21 an21 : Option Addr} {sl21 : Array (Option Value)} {oc21 kV21 dc21 pm21 cd21 ct21 : Value}
    {f22 : Addr} {od22 an22 : Option Addr} {sl22 : Array (Option Value)} {oc22 kV22 dc22 pm22 cd22 ct22 : Value}
    {f23 : Addr} {od23 an23 : Option Addr} {sl23 : Array (Option Value)} {oc23 kV23 dc23 pm23 cd23 ct23 : Value}
    {f24 : Addr} {od24 an24 : Option Addr} {sl24 : Array (Option Value)} {oc24 kV24 dc24 pm24 cd24 ct24 : Value}
    {f25 : Addr} {od25 an25 : Option Addr} {sl25 : Array (Option Value)} {oc25 kV25 dc25 pm25 cd25 ct25 : Value}
    {f26 : Addr} {od26 an26 : Option Addr} {sl26 : Array (Option Value)} {oc26 kV26 dc26 pm26 cd26 ct26 : Value}
    (a2 : PySem.W.nsIn K mainGlobals "is_whole" = some (some (.ref f2))) (l2 : K.lookup f2 = some ⟨oc2, od2, .func (PySem.W.fnOf "is_whole" "is_whole" (defArgs s_is_whole) (defBody s_is_whole) (defScope s_is_whole) .none kV2 dc2 pm2 an2 cd2 ct2), sl2⟩) (c2 : PySem.W.codeIn K cd2 "is_whole" = true) (k2 : PySem.W.keepIn K (.ref f2) = true)
    (a3 : PySem.W.nsIn K mainGlobals "is_tuple" = some (some (.ref f3))) (l3 : K.lookup f3 = some ⟨oc3, od3, .func (PySem.W.fnOf "is_tuple" "is_tuple" (defArgs s_is_tuple) (defBody s_is_tuple) (defScope s_is_tuple) .none kV3 dc3 pm3 an3 cd3 ct3), sl3⟩) (c3 : PySem.W.codeIn K cd3 "is_tuple" = true) (k3 : PySem.W.keepIn K (.ref f3) = true)
    (a4 : PySem.W.nsIn K mainGlobals "lowest" = some (some (.ref f4))) (l4 : K.lookup f4 = some ⟨oc4, od4, .func (PySem.W.fnOf "lowest" "lowest" (defArgs s_lowest) (defBody s_lowest) (defScope s_lowest) .none kV4 dc4 pm4 an4 cd4 ct4), sl4⟩) (c4 : PySem.W.codeIn K cd4 "lowest" = true) (k4 : PySem.W.keepIn K (.ref f4) = true)
    (a7 : PySem.W.nsIn K mainGlobals "five" = some (some (.ref f7))) (l7 : K.lookup f7 = some ⟨oc7, od7, .func (PySem.W.fnOf "five" "five" (defArgs s_five) (defBody s_five) (defScope s_five) .none kV7 dc7 pm7 an7 cd7 ct7), sl7⟩) (c7 : PySem.W.codeIn K cd7 "five" = true) (k7 : PySem.W.keepIn K (.ref f7) = true)
    (a8 : PySem.W.nsIn K mainGlobals "are_whole" = some (some (.ref f8))) (l8 : K.lookup f8 = some ⟨oc8, od8, .func (PySem.W.fnOf "are_whole" "are_whole" (defArgs s_are_whole) (defBody s_are_whole) (defScope s_are_whole) .none kV8 dc8 pm8 an8 cd8 ct8), sl8⟩) (c8 : PySem.W.codeIn K cd8 "are_whole" = true) (k8 : PySem.W.keepIn K (.ref f8) = true)
    (a9 : PySem.W.nsIn K mainGlobals "is_curve" = some (some (.ref f9))) (l9 : K.lookup f9 = some ⟨oc9, od9, .func (PySem.W.fnOf "is_curve" "is_curve" (defArgs s_is_curve) (defBody s_is_curve) (defScope s_is_curve) .none kV9 dc9 pm9 an9 cd9 ct9), sl9⟩) (c9 : PySem.W.codeIn K cd9 "is_curve" = true) (k9 : PySem.W.keepIn K (.ref f9) = true)
    (a10 : PySem.W.nsIn K mainGlobals "is_plain" = some (some (.ref f10))) (l10 : K.lookup f10 = some ⟨oc10, od10, .func (PySem.W.fnOf "is_plain" "is_plain" (defArgs s_is_plain) (defBody s_is_plain) (defScope s_is_plain) .none kV10 dc10 pm10 an10 cd10 ct10), sl10⟩) (c10 : PySem.W.codeIn K cd10 "is_plain" = true) (k10 : PySem.W.keepIn K (.ref f10) = true)
    (a11 : PySem.W.nsIn K mainGlobals "numbers_of" = some (some (.ref f11))) (l11 : K.lookup f11 = some ⟨oc11, od11, .func (PySem.W.fnOf "numbers_of" "numbers_of" (defArgs s_numbers_of) (defBody s_numbers_of) (defScope s_numbers_of) .none kV11 dc11 pm11 an11 cd11 ct11), sl11⟩) (c11 : PySem.W.codeIn K cd11 "numbers_of" = true) (k11 : PySem.W.keepIn K (.ref f11) = true)
    (a12 : PySem.W.nsIn K mainGlobals "j_of" = some (some (.ref f12))) (l12 : K.lookup f12 = some ⟨oc12, od12, .func (PySem.W.fnOf "j_of" "j_of" (defArgs s_j_of) (defBody s_j_of) (defScope s_j_of) .none kV12 dc12 pm12 an12 cd12 ct12), sl12⟩) (c12 : PySem.W.codeIn K cd12 "j_of" = true) (k12 : PySem.W.keepIn K (.ref f12) = true)
    (a14 : PySem.W.nsIn K mainGlobals "_law_begun" = some (some (.ref f14))) (l14 : K.lookup f14 = some ⟨oc14, od14, .func (PySem.W.fnOf "_law_begun" "_law_begun" (defArgs s__law_begun) (defBody s__law_begun) (defScope s__law_begun) .none kV14 dc14 pm14 an14 cd14 ct14), sl14⟩) (c14 : PySem.W.codeIn K cd14 "_law_begun" = true) (k14 : PySem.W.keepIn K (.ref f14) = true)
    (a15 : PySem.W.nsIn K mainGlobals "_law_draw" = some (some (.ref f15))) (l15 : K.lookup f15 = some ⟨oc15, od15, .func (PySem.W.fnOf "_law_draw" "_law_draw" (defArgs s__law_draw) (defBody s__law_draw) (defScope s__law_draw) .none kV15 dc15 pm15 an15 cd15 ct15), sl15⟩) (c15 : PySem.W.codeIn K cd15 "_law_draw" = true) (k15 : PySem.W.keepIn K (.ref f15) = true)
    (a16 : PySem.W.nsIn K mainGlobals "_law_of" = some (some (.ref f16))) (l16 : K.lookup f16 = some ⟨oc16, od16, .func (PySem.W.fnOf "_law_of" "_law_of" (defArgs s__law_of) (defBody s__law_of) (defScope s__law_of) .none kV16 dc16 pm16 an16 cd16 ct16), sl16⟩) (c16 : PySem.W.codeIn K cd16 "_law_of" = true) (k16 : PySem.W.keepIn K (.ref f16) = true)
    (a17 : PySem.W.nsIn K mainGlobals "_law_between" = some (some (.ref f17))) (l17 : K.lookup f17 = some ⟨oc17, od17, .func (PySem.W.fnOf "_law_between" "_law_between" (defArgs s__law_between) (defBody s__law_between) (defScope s__law_between) .none kV17 dc17 pm17 an17 cd17 ct17), sl17⟩) (c17 : PySem.W.codeIn K cd17 "_law_between" = true) (k17 : PySem.W.keepIn K (.ref f17) = true)
    (a18 : PySem.W.nsIn K mainGlobals "_law_common" = some (some (.ref f18))) (l18 : K.lookup f18 = some ⟨oc18, od18, .func (PySem.W.fnOf "_law_common" "_law_common" (defArgs s__law_common) (defBody s__law_common) (defScope s__law_common) .none kV18 dc18 pm18 an18 cd18 ct18), sl18⟩) (c18 : PySem.W.codeIn K cd18 "_law_common" = true) (k18 : PySem.W.keepIn K (.ref f18) = true)
    (a19 : PySem.W.nsIn K mainGlobals "_law_cut" = some (some (.ref f19))) (l19 : K.lookup f19 = some ⟨oc19, od19, .func (PySem.W.fnOf "_law_cut" "_law_cut" (defArgs s__law_cut) (defBody s__law_cut) (defScope s__law_cut) .none kV19 dc19 pm19 an19 cd19 ct19), sl19⟩) (c19 : PySem.W.codeIn K cd19 "_law_cut" = true) (k19 : PySem.W.keepIn K (.ref f19) = true)
    (a20 : PySem.W.nsIn K mainGlobals "_law_cubic_disc" = some (some (.ref f20))) (l20 : K.lookup f20 = some ⟨oc20, od20, .func (PySem.W.fnOf "_law_cubic_disc" "_law_cubic_disc" (defArgs s__law_cubic_disc) (defBody s__law_cubic_disc) (defScope s__law_cubic_disc) .none kV20 dc20 pm20 an20 cd20 ct20), sl20⟩) (c20 : PySem.W.codeIn K cd20 "_law_cubic_disc" = true) (k20 : PySem.W.keepIn K (.ref f20) = true)
    (a21 : PySem.W.nsIn K mainGlobals "_law_moved" = some (some (.ref f21))) (l21 : K.lookup f21 = some ⟨oc21, od21, .func (PySem.W.fnOf "_law_moved" "_law_moved" (defArgs s__law_moved) (defBody s__law_moved) (defScope s__law_moved) .none kV21 dc21 pm21 an21 cd21 ct21), sl21⟩) (c21 : PySem.W.codeIn K cd21 "_law_moved" = true) (k21 : PySem.W.keepIn K (.ref f21) = true)
    (a22 : PySem.W.nsIn K mainGlobals "_law_due" = some (some (.ref f22))) (l22 : K.lookup f22 = some ⟨oc22, od22, .func (PySem.W.fnOf "_law_due" "_law_due" (defArgs s__law_due) (defBody s__law_due) (defScope s__law_due) .none kV22 dc22 pm22 an22 cd22 ct22), sl22⟩) (c22 : PySem.W.codeIn K cd22 "_law_due" = true) (k22 : PySem.W.keepIn K (.ref f22) = true)
    (a23 : PySem.W.nsIn K mainGlobals "_law_bent" = some (some (.ref f23))) (l23 : K.lookup f23 = some ⟨oc23, od23, .func (PySem.W.fnOf "_law_bent" "_law_bent" (defArgs s__law_bent) (defBody s__law_bent) (defScope s__law_bent) .none kV23 dc23 pm23 an23 cd23 ct23), sl23⟩) (c23 : PySem.W.codeIn K cd23 "_law_bent" = true) (k23 : PySem.W.keepIn K (.ref f23) = true)
    (a24 : PySem.W.nsIn K mainGlobals "_law_curve_right" = some (some (.ref f24))) (l24 : K.lookup f24 = some ⟨oc24, od24, .func (PySem.W.fnOf "_law_curve_right" "_law_curve_right" (defArgs s__law_curve_right) (defBody s__law_curve_right) (defScope s__law_curve_right) .none kV24 dc24 pm24 an24 cd24 ct24), sl24⟩) (c24 : PySem.W.codeIn K cd24 "_law_curve_right" = true) (k24 : PySem.W.keepIn K (.ref f24) = true)
    (a25 : PySem.W.nsIn K mainGlobals "_law_plain_right" = some (some (.ref f25))) (l25 : K.lookup f25 = some ⟨oc25, od25, .func (PySem.W.fnOf "_law_plain_right" "_law_plain_right" (defArgs s__law_plain_right) (defBody s__law_plain_right) (defScope s__law_plain_right) .none kV25 dc25 pm25 an25 cd25 ct25), sl25⟩) (c25 : PySem.W.codeIn K cd25 "_law_plain_right" = true) (k25 : PySem.W.keepIn K (.ref f25) = true)
    (a26 : PySem.W.nsIn K mainGlobals "law" = some (some (.ref f26))) (l26 : K.lookup f26 = some ⟨oc26, od26, .func (PySem.W.fnOf "law" "law" (defArgs s_law) (defBody s_law) (defScope s_law) .none kV26 dc26 pm26 an26 cd26 ct26), sl26⟩) (c26 : PySem.W.codeIn K cd26 "law" = true) (k26 : PySem.W.keepIn K (.ref f26) = true)
    (z_gcd : PySem.W.nsIn K mainGlobals "gcd" = some (some (.builtin "math.gcd")))
    (z_type : PySem.W.nsIn K mainGlobals "type" = some none)
    (z_int : PySem.W.nsIn K mainGlobals "int" = some none)
    (z_len : PySem.W.nsIn K mainGlobals "len" = some none)
    (z_isinstance : PySem.W.nsIn K mainGlobals "isinstance" = some none)
    (z_tuple : PySem.W.nsIn K mainGlobals "tuple" = some none)
    (z_all : PySem.W.nsIn K mainGlobals "all" = some none)
    (z_max : PySem.W.nsIn K mainGlobals "max" = some none)
    (z_min : PySem.W.nsIn K mainGlobals "min" = some none)
    (z_abs : PySem.W.nsIn K mainGlobals "abs" = some none)
    (z_range : PySem.W.nsIn K mainGlobals "range" = some none)
    (z_list : PySem.W.nsIn K mainGlobals "list" = some none)
    (z_repr : PySem.W.nsIn K mainGlobals "repr" = some none)
    {tk_PLAIN_LIMIT : Tok} (z_PLAIN_LIMIT : PySem.W.nsIn K mainGlobals "PLAIN_LIMIT" = some (some (.int 10000 tk_PLAIN_LIMIT)))
    : ∃ fd : FuncData, (∀ (s : Shared) (v : Value), BindsTo s fd ⟨[v], []⟩ [("script", v)]) ∧ ∀ base : Heap, K.In base → base.Ns mainGlobals mg → FnG P w K mg base 5 fa fd ["script"] (sp_law K) := by
  have T : Tx K mg := ⟨PySem.W.mg_of X G z_gcd, PySem.W.mg_none_of X G z_type, PySem.W.mg_none_of X G z_int, PySem.W.mg_none_of X G z_len, PySem.W.mg_none_of X G z_isinstance, PySem.W.mg_none_of X G z_tuple, PySem.W.mg_none_of X G z_all, PySem.W.mg_none_of X G z_max, PySem.W.mg_none_of X G z_min, PySem.W.mg_none_of X G z_abs, PySem.W.mg_none_of X G z_range, PySem.W.mg_none_of X G z_list, PySem.W.mg_none_of X G z_repr, ⟨_, PySem.W.mg_of X G z_PLAIN_LIMIT, ⟨_, rfl⟩⟩⟩
  have d2 : Df K mg "is_whole" s_is_whole ["value"] := df_mk X G a2 l2 c2 k2 (fun _ _ _ _ _ _ us hl => match us, hl with | [_], _ => rfl)
  have d3 : Df K mg "is_tuple" s_is_tuple ["value", "many"] := df_mk X G a3 l3 c3 k3 (fun _ _ _ _ _ _ us hl => match us, hl with | [_, _], _ => rfl)
  have d4 : Df K mg "lowest" s_lowest ["n", "d"] := df_mk X G a4 l4 c4 k4 (fun _ _ _ _ _ _ us hl => match us, hl with | [_, _], _ => rfl)
  have d7 : Df K mg "five" s_five ["curve"] := df_mk X G a7 l7 c7 k7 (fun _ _ _ _ _ _ us hl => match us, hl with | [_], _ => rfl)
  have d8 : Df K mg "are_whole" s_are_whole ["value", "many"] := df_mk X G a8 l8 c8 k8 (fun _ _ _ _ _ _ us hl => match us, hl with | [_, _], _ => rfl)
  have d9 : Df K mg "is_curve" s_is_curve ["value"] := df_mk X G a9 l9 c9 k9 (fun _ _ _ _ _ _ us hl => match us, hl with | [_], _ => rfl)
  have d10 : Df K mg "is_plain" s_is_plain ["value"] := df_mk X G a10 l10 c10 k10 (fun _ _ _ _ _ _ us hl => match us, hl with | [_], _ => rfl)
  have d11 : Df K mg "numbers_of" s_numbers_of ["curve"] := df_mk X G a11 l11 c11 k11 (fun _ _ _ _ _ _ us hl => match us, hl with | [_], _ => rfl)
  have d12 : Df K mg "j_of" s_j_of ["curve"] := df_mk X G a12 l12 c12 k12 (fun _ _ _ _ _ _ us hl => match us, hl with | [_], _ => rfl)
  have d14 : Df K mg "_law_begun" s__law_begun ["script", "k"] := df_mk X G a14 l14 c14 k14 (fun _ _ _ _ _ _ us hl => match us, hl with | [_, _], _ => rfl)
  have d15 : Df K mg "_law_draw" s__law_draw ["m", "below"] := df_mk X G a15 l15 c15 k15 (fun _ _ _ _ _ _ us hl => match us, hl with | [_, _], _ => rfl)
  have d16 : Df K mg "_law_of" s__law_of ["m", "some"] := df_mk X G a16 l16 c16 k16 (fun _ _ _ _ _ _ us hl => match us, hl with | [_, _], _ => rfl)
  have d17 : Df K mg "_law_between" s__law_between ["m", "size"] := df_mk X G a17 l17 c17 k17 (fun _ _ _ _ _ _ us hl => match us, hl with | [_, _], _ => rfl)
  have d18 : Df K mg "_law_common" s__law_common ["a", "b"] := df_mk X G a18 l18 c18 k18 (fun _ _ _ _ _ _ us hl => match us, hl with | [_, _], _ => rfl)
  have d19 : Df K mg "_law_cut" s__law_cut ["n", "d"] := df_mk X G a19 l19 c19 k19 (fun _ _ _ _ _ _ us hl => match us, hl with | [_, _], _ => rfl)
  have d20 : Df K mg "_law_cubic_disc" s__law_cubic_disc ["a", "b", "c", "d"] := df_mk X G a20 l20 c20 k20 (fun _ _ _ _ _ _ us hl => match us, hl with | [_, _, _, _], _ => rfl)
  have d21 : Df K mg "_law_moved" s__law_moved ["five_v", "r", "s", "t"] := df_mk X G a21 l21 c21 k21 (fun _ _ _ _ _ _ us hl => match us, hl with | [_, _, _, _], _ => rfl)
  have d22 : Df K mg "_law_due" s__law_due ["five_v"] := df_mk X G a22 l22 c22 k22 (fun _ _ _ _ _ _ us hl => match us, hl with | [_], _ => rfl)
  have d23 : Df K mg "_law_bent" s__law_bent ["m", "five_v"] := df_mk X G a23 l23 c23 k23 (fun _ _ _ _ _ _ us hl => match us, hl with | [_, _], _ => rfl)
  have d24 : Df K mg "_law_curve_right" s__law_curve_right ["m"] := df_mk X G a24 l24 c24 k24 (fun _ _ _ _ _ _ us hl => match us, hl with | [_], _ => rfl)
  have d25 : Df K mg "_law_plain_right" s__law_plain_right ["m"] := df_mk X G a25 l25 c25 k25 (fun _ _ _ _ _ _ us hl => match us, hl with | [_], _ => rfl)
  refine law_fd X G hfa a26 l26 c26 k26 (fun _ _ _ _ _ _ us hl => match us, hl with | [_], _ => rfl) (fun fd F base => ?_)
  have c_is_whole := k_is_whole (P := P) (w := w) (base := base) T d2 
  have c_is_tuple := k_is_tuple (P := P) (w := w) (base := base) T d3 
  have c_lowest := k_lowest (P := P) (w := w) (base := base) T d4 
  have c_five := k_five (P := P) (w := w) (base := base) T d7 
  have c_law_begun := k_law_begun (P := P) (w := w) (base := base) T d14 
  have c_law_draw := k_law_draw (P := P) (w := w) (base := base) T d15 
  have c_law_common := k_law_common (P := P) (w := w) (base := base) T d18 
  have c_law_cubic_disc := k_law_cubic_disc (P := P) (w := w) (base := base) T d20 
  have c_law_moved := k_law_moved (P := P) (w := w) (base := base) T d21 
  have c_are_whole := k_are_whole (P := P) (w := w) (base := base) T d8 c_is_tuple c_is_whole
  have c_numbers_of := k_numbers_of (P := P) (w := w) (base := base) T d11 c_five
  have c_law_of := k_law_of (P := P) (w := w) (base := base) T d16 c_law_draw
  have c_law_between := k_law_between (P := P) (w := w) (base := base) T d17 c_law_draw
  have c_law_cut := k_law_cut (P := P) (w := w) (base := base) T d19 c_law_common
  have c_law_due := k_law_due (P := P) (w := w) (base := base) T d22 c_law_cubic_disc
  have c_is_curve := k_is_curve (P := P) (w := w) (base := base) T d9 c_are_whole c_numbers_of
  have c_is_plain := k_is_plain (P := P) (w := w) (base := base) T d10 c_are_whole c_numbers_of
  have c_j_of := k_j_of (P := P) (w := w) (base := base) T d12 c_numbers_of c_lowest
  have c_law_bent := k_law_bent (P := P) (w := w) (base := base) T d23 c_law_draw c_law_of
  have c_law_curve_right := k_law_curve_right (P := P) (w := w) (base := base) T d24 c_law_of c_law_due c_law_moved c_law_between c_is_curve c_numbers_of c_j_of c_law_cut c_law_bent
  have c_law_plain_right := k_law_plain_right (P := P) (w := w) (base := base) T d25 c_law_of c_law_between c_is_plain c_law_cubic_disc
  exact k_law T F c_law_begun c_numbers_of c_law_curve_right c_law_plain_right
end K05
open PySem PySem.W PyProof.Rows
set_option maxRecDepth 100000 in
set_option maxHeartbeats 0 in
theorem PySem.Challenge.cw_pointsum_k05_curves_and_their_numbers_holds : PySem.Challenge.rw_pointsum_k05_curves_and_their_numbers.Holds := by
  w_on; o_law; k_head; (case hw => w_witness2)
  k_fill
  refine Gd.walk_g (l := PySem.Challenge.rw_pointsum_k05_curves_and_their_numbers) (n := 63) (k := 5) (x := "script") (sp := fun K => K05.sp_law K) rfl (by decide) rfl ⟨rfl, by decide, by decide⟩ (fun w h Y => PySem.W.kIn_of Y) ?F (fun K H a ns hl hS => ⟨a, ns, rfl, hS, hl, fun _ => rfl⟩)
  case F =>
    intro w mg fa h KX G hmg
    refine' K05.all_mk KX G hmg ?a2 ?l2 ?c2 ?k2 ?a3 ?l3 ?c3 ?k3 ?a4 ?l4 ?c4 ?k4 ?a7 ?l7 ?c7 ?k7 ?a8 ?l8 ?c8 ?k8 ?a9 ?l9 ?c9 ?k9 ?a10 ?l10 ?c10 ?k10 ?a11 ?l11 ?c11 ?k11 ?a12 ?l12 ?c12 ?k12 ?a14 ?l14 ?c14 ?k14 ?a15 ?l15 ?c15 ?k15 ?a16 ?l16 ?c16 ?k16 ?a17 ?l17 ?c17 ?k17 ?a18 ?l18 ?c18 ?k18 ?a19 ?l19 ?c19 ?k19 ?a20 ?l20 ?c20 ?k20 ?a21 ?l21 ?c21 ?k21 ?a22 ?l22 ?c22 ?k22 ?a23 ?l23 ?c23 ?k23 ?a24 ?l24 ?c24 ?k24 ?a25 ?l25 ?c25 ?k25 ?a26 ?l26 ?c26 ?k26 ?z_gcd ?z_type ?z_int ?z_len ?z_isinstance ?z_tuple ?z_all ?z_max ?z_min ?z_abs ?z_range ?z_list ?z_repr ?z_PLAIN_LIMIT
    (case a2 => k_is); (case l2 => k_is); (case c2 => k_is); (case k2 => k_is); (case a3 => k_is); (case l3 => k_is); (case c3 => k_is); (case k3 => k_is)
    (case a4 => k_is); (case l4 => k_is); (case c4 => k_is); (case k4 => k_is); (case a7 => k_is); (case l7 => k_is); (case c7 => k_is); (case k7 => k_is)
    (case a8 => k_is); (case l8 => k_is); (case c8 => k_is); (case k8 => k_is); (case a9 => k_is); (case l9 => k_is); (case c9 => k_is); (case k9 => k_is)
    (case a10 => k_is); (case l10 => k_is); (case c10 => k_is); (case k10 => k_is); (case a11 => k_is); (case l11 => k_is); (case c11 => k_is); (case k11 => k_is)
    (case a12 => k_is); (case l12 => k_is); (case c12 => k_is); (case k12 => k_is); (case a14 => k_is); (case l14 => k_is); (case c14 => k_is); (case k14 => k_is)
    (case a15 => k_is); (case l15 => k_is); (case c15 => k_is); (case k15 => k_is); (case a16 => k_is); (case l16 => k_is); (case c16 => k_is); (case k16 => k_is)
    (case a17 => k_is); (case l17 => k_is); (case c17 => k_is); (case k17 => k_is); (case a18 => k_is); (case l18 => k_is); (case c18 => k_is); (case k18 => k_is)
    (case a19 => k_is); (case l19 => k_is); (case c19 => k_is); (case k19 => k_is); (case a20 => k_is); (case l20 => k_is); (case c20 => k_is); (case k20 => k_is)
    (case a21 => k_is); (case l21 => k_is); (case c21 => k_is); (case k21 => k_is); (case a22 => k_is); (case l22 => k_is); (case c22 => k_is); (case k22 => k_is)
    (case a23 => k_is); (case l23 => k_is); (case c23 => k_is); (case k23 => k_is); (case a24 => k_is); (case l24 => k_is); (case c24 => k_is); (case k24 => k_is)
    (case a25 => k_is); (case l25 => k_is); (case c25 => k_is); (case k25 => k_is); (case a26 => k_is); (case l26 => k_is); (case c26 => k_is); (case k26 => k_is)
    (case z_gcd => k_is); (case z_type => k_is); (case z_int => k_is); (case z_len => k_is); (case z_isinstance => k_is); (case z_tuple => k_is); (case z_all => k_is); (case z_max => k_is)
    (case z_min => k_is); (case z_abs => k_is); (case z_range => k_is); (case z_list => k_is); (case z_repr => k_is); (case z_PLAIN_LIMIT => k_is)
