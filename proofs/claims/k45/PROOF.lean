import PyProof.Rows.All
import Wide.All
import OpenK.AllK
import Wide.FinOn
import PyProof.ReprRoads
import HandS.ForMost
import HandS.Wide
import PyProof.StrLawsRepr
import PyProof.ReprLen
import HandS.TupAny
import HandS.Gcd
import HandS.More
import HandS.IsInst
import HandS.Style
import HandS.Defaults
import Flt.RightSqrt
import HandS.Codes
import HandS.WideBits
import HandS.TryOnly
import PySem.Challenge.RW_pointsum_k45_walks_modulo_numbers
set_option Elab.async false
set_option linter.all false
set_option maxRecDepth 100000
/-! Promises that know that no repr is under way around the call; repr of plain data. -/
namespace Gd
open PySem PySem.Spec PyProof.Rows L2
/-- as the layer's FnOk, for calls around which nothing is being shown -/
structure FnG (P : Program) (w : World) (K : PySem.W.Frag) (mg : Str → Option Value) (base : Heap) (k : Nat) (f : Addr) (fd : FuncData) (ps : List Str) (sp : Sp) : Prop where
  many : ∀ vs H Q E, sp vs H Q E → vs.length = ps.length
  goes : ∀ (A : Around) (outer : List Env) (s : Shared) (H : Hp) (args : Args) (us : List Value) (vs : List V) (Q : VK) (E : XK), A.guards = some [] → Room k A → Env0 P w K mg base A outer s H →
    BindsTo s fd args (ps.zip us) → Vals vs us → sp vs H Q E → codeAny (model P w) A (.call (.ref f) args) (CR CX0 outer P w H s Q E) s
section
variable {P : Program} {w : World} {K : PySem.W.Frag} {mg : Str → Option Value} {base : Heap}
theorem FnG.of {k : Nat} {f : Addr} {fd : FuncData} {ps : List Str} {sp : Sp} (F : FnOk P w K mg base CX0 k f fd ps sp) : FnG P w K mg base k f fd ps sp :=
  ⟨F.len, fun A outer s H args us vs Q E _ => F.run A outer s H args us vs Q E⟩
theorem FnG.up {j k : Nat} {f : Addr} {fd : FuncData} {ps : List Str} {sp : Sp} (F : FnG P w K mg base j f fd ps sp) (h : j ≤ k) : FnG P w K mg base k f fd ps sp :=
  ⟨F.many, fun A outer s H args us vs Q E hg hr => F.goes A outer s H args us vs Q E hg (hr.mono h)⟩
/-- a def by its body -/
theorem FnG.by_body {x qual : Str} {st : Stmt} {f : Addr} {fd : FuncData} {N ps : List Str} {k : Nat} {sp : Sp} (F : Fun K x qual st f fd) (S : FnScope N ps (defScope st)) (len : ∀ vs H Q E, sp vs H Q E → vs.length = ps.length)
    (hb : ∀ (cdv : Value) (A : Around) (outer : List Env) (s : Shared) (H : Hp) (vs : List V) (Q : VK) (E : XK), A.guards = some [] → Room k (A.deeper (envOfC qual (defScope st) s.heap.objs.size f cdv)) → sp vs H Q E →
      ∃ t, PSs (cxOf CX0 P w K mg base N qual (defScope st) f cdv A outer s H E).nox (defBody st) t ∧ t { nx := fun _ H' => Q .non H', rt := Q } (start N vs) H) : FnG P w K mg base (k + 1) f fd ps sp := by
  obtain ⟨oc, od, kV, doc, pm, an, cdv, ct, osl, rfl, lk, hcd⟩ := F.ex
  constructor
  · exact len
  · intro A outer s H args us vs Q E hg hr e0 hbi rv hsp
    have hlen := len _ _ _ _ hsp
    have lim : s.heap.NoLimit := e0.mod.nolimit.keeps fun b o e => (e0.bs b o e).1
    have inK : K.In s.heap := e0.mod.kin.keeps fun b o e => (e0.bs b o e).1
    have kinds : ∀ y ∈ ps.zip us, (defScope st).names.lookup y.1 = some .local ∨ ((defScope st).names.lookup y.1 = some .cell ∧ ((cellsFrom (s.heap.objs.size + 1) (defScope st).names []).lookup y.1).isSome = true) := by
      rintro ⟨n, v⟩ hy
      have hp := S.par n (List.of_mem_zip hy).1
      cases hp with
      | inl q => exact Or.inl q
      | inr q => exact Or.inr ⟨q, PySem.W.cellsFrom_some _ _ _ (Or.inl q)⟩
    refine codeAny_call_function hr.depth (inK _ _ lk) rfl S.co S.gen rfl (PySem.W.codeRec_of inK hcd) (hbi _ _ _ _ ?_)
    refine wpAny_newFunctionEnv_cells S.kind kinds fun env he s1 x1 => ?_
    subst he
    refine ⟨lim.keeps x1.toInCall.keep, codeAny_func ?_⟩
    obtain ⟨t, ht, hq⟩ := hb cdv A outer s H vs Q E hg (hr.deeper _) hsp
    have I0 : Inv (cxOf CX0 P w K mg base N qual (defScope st) f cdv A outer s H E) [] (start N vs) H s1 := inv_start S hr.hd e0 hlen rv x1
    refine wpAny_mono (ht.nox.run [] s1 (start N vs) H _ I0 hq) (fun fl s' hs => ?_) fun e s' hs => hs
    match fl, hs with
    | .ret u, ⟨v, σ', H', J, r1, q1⟩ => exact ⟨v, H', J.os, J.bare, J.base, J.hok, r1, q1⟩
    | .next, ⟨σ', H', J, q1⟩ => exact ⟨V.non, H', J.os, J.bare, J.base, J.hok, rfl, q1⟩
    | .brk, ⟨_, _, _, q1⟩ => exact q1.elim
    | .cont, ⟨_, _, _, q1⟩ => exact q1.elim
end
/-- f(e, ..) where every parameter is given -/
def tKal (sp : Sp) (t : TA) : TE := fun σ H Q => t σ H fun vs H1 => sp vs H1 Q E0
/-- a def that may be called by its name -/
structure Kl (P : Program) (w : World) (K : PySem.W.Frag) (mg : Str → Option Value) (base : Heap) (k : Nat) (x : Str) (sp : Sp) : Prop where
  ex : ∃ (f : Addr) (fd : FuncData) (ps : List Str), FnOk P w K mg base CX0 k f fd ps sp ∧ mg x = some (.ref f) ∧ PySem.W.keepIn K (.ref f) = true ∧ Binds K fd ps []
structure Kg (P : Program) (w : World) (K : PySem.W.Frag) (mg : Str → Option Value) (base : Heap) (k : Nat) (x : Str) (sp : Sp) : Prop where
  ex : ∃ (f : Addr) (fd : FuncData) (ps : List Str), FnG P w K mg base k f fd ps sp ∧ mg x = some (.ref f) ∧ PySem.W.keepIn K (.ref f) = true ∧ Binds K fd ps []
section
variable {X : Cx} {j k : Nat} {f : Addr} {fd : FuncData} {ps : List Str} {sp : Sp} {x : Str} {p pos : Pos} {e : Expr} {es : List Expr} {t : TA}
theorem run_g {pins : List (Addr × Obj)} {σ : L2.St} {H : Hp} {s : Shared} {Q : VK} {us : List Value} {vs : List V} (F : FnG X.prog X.w X.K X.mg X.base k f fd ps sp) (hg : X.A.guards = some []) (hr : Room k X.A) (hb : Binds X.K fd ps [])
    (I : Inv X pins σ H s) (r : Vals vs us) (h : sp vs H Q E0) : wpAny (model X.prog X.w) X.A (call (.ref f) us) (EP X pins σ Q) X.xe s := by
  have hl : us.length = ps.length := r.length.symm.trans (F.many _ _ _ _ h)
  have hbb := hb s us I.kIn (by rw [List.append_nil]; exact hl)
  rw [List.append_nil] at hbb
  refine wpAny_call (codeAny_mono (F.goes X.A X.stack s H ⟨us, []⟩ us vs Q E0 hg hr I.env0 hbb r h) fun res s' hq => ?_)
  match res, hq with
  | .ok (.ret u), hq => exact I.after hq
  | .error e, hq => exact (show False from hq).elim
theorem pe_g (c : Kg X.prog X.w X.K X.mg X.base k x sp) (hgd : X.A.guards = some []) (hr : Room j X.A) (hk : k ≤ j) (hg : Gl X x) (ha : PA X (e :: es) t)
    (hdb : (x == ("__debug__" : Str)) = false := by decide) (he : starEach (e :: es) X.env = (false, eval e X.env) :: starEach es X.env := by rfl) (hpl : (backTo pos (starEach es X.env)).any (·.1) = false := by rfl) :
    PE X (.Call (.Name x p) (e :: es) [] pos) (tKal sp t) := by
  obtain ⟨f, fd, ps, F, hm, kp, b⟩ := c.ex
  constructor
  intro pins s σ H Q I h
  refine wpAny_Call_Name_kw (ld_glob I hg hm ?_ hdb)
  refine PySem.W.callWith_K (h₀ := X.base) I.ok.mod.kin kp (thn (ha.run pos pins s σ H _ I h) fun us s1 ⟨vs, H1, I1, r, q⟩ => ⟨I1.kIn, ?_⟩) he hpl
  exact run_g F hgd (hr.mono hk) b I1 r q
theorem pe_k (c : Kl X.prog X.w X.K X.mg X.base k x sp) (hr : Room j X.A) (hk : k ≤ j) (hg : Gl X x) (ha : PA X (e :: es) t)
    (hdb : (x == ("__debug__" : Str)) = false := by decide) (he : starEach (e :: es) X.env = (false, eval e X.env) :: starEach es X.env := by rfl) (hpl : (backTo pos (starEach es X.env)).any (·.1) = false := by rfl) :
    PE X (.Call (.Name x p) (e :: es) [] pos) (tKal sp t) := by
  obtain ⟨f, fd, ps, F, hm, kp, b⟩ := c.ex
  have h := pe_call (sp := sp) (E := E0) (dvs := []) F (hr.mono hk) hg hm kp b .nil pass0 ha hdb he hpl (pos := pos) (p := p)
  constructor
  intro pins s σ H Q I q
  refine h.run pins s σ H Q I ?_
  have e2 : tCall sp [] E0 t = tKal sp t := by
    funext σ H Q
    show t σ H (fun vs H1 => sp (vs ++ []) H1 Q E0) = t σ H (fun vs H1 => sp vs H1 Q E0)
    congr 1
    funext vs H1
    rw [List.append_nil]
  rw [e2]
  exact q
end
/-! ### repr of plain data -/
mutual
/-- at most so many signs -/
def wt : PyData → Nat
  | .none | .bool _ => 5
  | .int _ => 1921
  | .str x => 10 * x.length + 2
  | .list xs | .tuple xs => wtAll xs + 3
  | .dict _ => 0
def wtAll : List PyData → Nat
  | [] => 0
  | x :: xs => wt x + 2 + wtAll xs
end
mutual
/-- data that can be shown: its ints below 1920 bits -/
def okD : PyData → Bool
  | .none | .bool _ => true
  | .int i => decide (i.natAbs.log2 < 1920)
  | .str x => x.cps.toList.all fun c => decide (c < 16 ^ 8)
  | .list xs | .tuple xs => okAll xs
  | .dict _ => false
def okAll : List PyData → Bool
  | [] => true
  | x :: xs => okD x && okAll xs
end
theorem one_br : (("[" : Str)).length = 1 := rfl
theorem one_br2 : (("]" : Str)).length = 1 := rfl
theorem one_pa : (("(" : Str)).length = 1 := rfl
theorem tup_wt (ts : List Str) : (tupleText ts).length ≤ piled ts + 3 := by
  have e3 : (((if ts.length == 1 then ",)" else ")" : String) : Str)).length ≤ 2 := by split <;> decide +kernel
  unfold tupleText
  rw [strLen_append, strLen_append, one_pa]
  cases ts with
  | nil =>
    have : (Str.join ", " []).length = 0 := by decide +kernel
    omega
  | cons x r =>
    have := join_length_add (x :: r) (List.cons_ne_nil _ _)
    omega
theorem sum_piled : ∀ ts : List Str, (ts.map (·.length)).sum + 2 * ts.length = piled ts
  | [] => rfl
  | t :: ts => by
    have ih := sum_piled ts
    rw [piled_cons, ← ih, List.map_cons, List.sum_cons, List.length_cons]
    omega
theorem lst_wt (ts : List Str) : (listText ts).length ≤ piled ts + 3 := by
  have h := textFrom_len_le ts 0 "["
  have h2 := sum_piled ts
  unfold listText
  rw [strLen_append, one_br2]
  rw [one_br] at h
  omega
mutual
theorem shown_wt : ∀ d : PyData, okD d = true → d.shown.length ≤ wt d ∧ d.showable = true ∧ d.hasDict = false
  | .none, _ => by
    refine ⟨?_, rfl, rfl⟩
    show (("None" : Str)).length ≤ 5
    decide +kernel
  | .bool b, _ => by
    refine ⟨?_, rfl, rfl⟩
    cases b <;> (show _ ≤ 5; decide +kernel)
  | .int i, h => by
    have h1 : i.natAbs.log2 < 1920 := of_decide_eq_true (by simpa only [okD] using h)
    refine ⟨?_, by simpa only [PyData.showable] using decide_eq_true h1, rfl⟩
    have e := int_text_length_le (k := 1920) (by decide) h1
    show (Str.ofString (toString i)).length ≤ 1921
    rw [PySem.ofString_length]
    exact e
  | .str x, h => by
    refine ⟨?_, rfl, rfl⟩
    have h1 : ∀ c ∈ x.cps.toList, c < 16 ^ 8 := fun c hc => of_decide_eq_true (List.all_eq_true.mp (by simpa only [okD] using h) c hc)
    exact StrLaws.reprText_len x h1
  | .list xs, h => by
    obtain ⟨h1, h2, h3⟩ := shown_wtAll xs (by simpa only [okD] using h)
    refine ⟨?_, by simpa only [PyData.showable] using h2, by simpa only [PyData.hasDict] using h3⟩
    simp only [PyData.shown, wt]
    exact Nat.le_trans (lst_wt _) (Nat.add_le_add_right h1 3)
  | .tuple xs, h => by
    obtain ⟨h1, h2, h3⟩ := shown_wtAll xs (by simpa only [okD] using h)
    refine ⟨?_, by simpa only [PyData.showable] using h2, by simpa only [PyData.hasDict] using h3⟩
    simp only [PyData.shown, wt]
    exact Nat.le_trans (tup_wt _) (Nat.add_le_add_right h1 3)
  | .dict _, h => by simp only [okD, Bool.false_eq_true] at h
theorem shown_wtAll : ∀ xs : List PyData, okAll xs = true → piled (PyData.shownAll xs) ≤ wtAll xs ∧ PyData.showableAll xs = true ∧ PyData.hasDictAll xs = false
  | [], _ => ⟨Nat.le_refl _, rfl, rfl⟩
  | x :: xs, h => by
    have h0 : (okD x && okAll xs) = true := by simpa only [okAll] using h
    rw [Bool.and_eq_true] at h0
    obtain ⟨a1, a2, a3⟩ := shown_wt x h0.1
    obtain ⟨b1, b2, b3⟩ := shown_wtAll xs h0.2
    refine ⟨?_, by simp only [PyData.showableAll, a2, b2, Bool.and_self], by simp only [PyData.hasDictAll, a3, b3, Bool.or_self]⟩
    simp only [PyData.shownAll, wtAll]
    rw [piled_cons]
    omega
end
/-- the text of data -/
def rRepr (K : PySem.W.Frag) : List V → Hp → VK → Prop := fun xs H Q => ∃ x d, xs = [x] ∧ Dp K H x d ∧ okD d = true ∧ d.depth ≤ 40 ∧ wt d ≤ 1000000 ∧ Q (.str d.shown) H
section
variable {X : Cx}
theorem call_reprD (hg : X.A.guards = some []) (hu : X.A.units + 64 < cLine) : CallR X (.builtin "repr") (rRepr X.K) := by
  intro pins s σ H xs us Q I r h
  obtain ⟨x, d, rfl, hd, h0, h3, hw, q⟩ := h
  obtain ⟨hz, h1, h2⟩ := shown_wt d h0
  have h4 : d.shown.length ≤ sizeLine := Nat.le_trans hz (Nat.le_trans hw (by decide))
  obtain ⟨u, rfl, hx⟩ := vals1 r
  obtain ⟨as, rd⟩ := Dp.reads I d x u hd hx
  cases hd with
  | non =>
    obtain rfl : u = Value.none := hx
    exact PySem.P.repr_of_none ⟨.str _, H, I.tok _, ⟨_, rfl⟩, q⟩
  | bl b =>
    obtain rfl : u = Value.bool b := hx
    exact PySem.P.repr_of_bool ⟨.str _, H, I.tok _, ⟨_, rfl⟩, q⟩
  | int i =>
    obtain ⟨t, rfl⟩ := hx
    exact PySem.P.repr_of_int (of_decide_eq_true h1) ⟨.str _, H, I.tok _, ⟨_, rfl⟩, q⟩
  | str z =>
    obtain ⟨t, rfl⟩ := hx
    exact PySem.P.repr_of_str ⟨.str _, H, I.tok _, ⟨_, rfl⟩, q⟩ h4
  | lst hs ha =>
    obtain rfl : u = Value.ref _ := hx
    refine repr_of_reads' rd h1 (PyData.noDict_hsm h2) hg (by omega) (fun _ _ z => z) (fun h' u tk hk => ?_) h4
    exact ⟨.str _, H, I.kept (t' := tk) hk, ⟨_, rfl⟩, q⟩
  | tup hs ha =>
    obtain rfl : u = Value.ref _ := hx
    refine repr_of_reads' rd h1 (PyData.noDict_hsm h2) hg (by omega) (fun _ _ z => z) (fun h' u tk hk => ?_) h4
    exact ⟨.str _, H, I.kept (t' := tk) hk, ⟨_, rfl⟩, q⟩
end
/-! ### the law's end -/
section
variable {P : Program} {w : World} {K : PySem.W.Frag} {mg mb : Str → Option Value} {k : Nat} {fa a : Addr} {fd : FuncData} {x : Str} {sp : Sp} {s1 : Shared} {vs : List Value} {ns : List Int}
/-- from a heap H in which at most the script is tracked -/
theorem law_from {H : Hp} (KX : K.In s1.heap) (hns : s1.heap.Ns mainGlobals mg) (hb : s1.heap.Ns builtinsNs mb) (hbb : ∀ x : Str, x ≠ "__name__" → mb x = bootBuiltins x) (hlim : s1.heap.NoLimit) (hg : s1.gens = #[])
    (ha : s1.heap.get? a = some { cls := .type "list", data := .seq vs.toArray }) (hr : Room k callerA) (F : ∀ base : Heap, K.In base → base.Ns mainGlobals mg → FnG P w K mg base k fa fd [x] sp)
    (hbind : ∀ (s : Shared) (u : Value), BindsTo s fd ⟨[u], []⟩ [(x, u)]) (hO : Only H) (hok : HOk P w H s1.heap) (hA : ∀ b, H b ≠ none → b = a) (hK : H a ≠ none → K.lookup a = none)
    (hsp : sp [.ref a] H (fun v _ => v = .bl true) fun _ _ _ => False) :
    codeAny (model P w) callerA (.call (.ref fa) ⟨[.ref a], []⟩) (fun r s' => r = .ok (.ret (.bool true)) ∧ OldK s1.heap s'.heap ∧ s'.os = s1.os ∧ AllBare s'.gens) s1 := by
  have untr : ∀ {b : Addr} {o : Obj} {es : Array DictEntry} {ep : Nat}, s1.heap.get? b = some o → o.data = .dict es ep → H b = none := by
    intro b o es ep e d
    cases q : H b with
    | none => rfl
    | some u =>
      obtain rfl : b = a := hA b (by rw [q]; exact Option.some_ne_none u)
      rw [ha] at e
      cases e
      exact absurd (show Data.seq vs.toArray _ = Data.dict es ep from d) (by intro z; cases z)
  have nsH : ∀ {b : Addr} {m : Str → Option Value}, s1.heap.Ns b m → (hidT s1.heap H).Ns b m := by
    rintro b m ⟨o, es, ep, e, d, r⟩
    exact ⟨o, es, ep, hidT_get e (untr e d), d, r⟩
  have inH : K.In (hidT s1.heap H) := by
    intro b o e
    refine hidT_get (KX b o e) ?_
    cases q : H b with
    | none => rfl
    | some u =>
      have hne : H b ≠ none := by rw [q]; exact Option.some_ne_none u
      obtain rfl : b = a := hA b hne
      rw [hK hne] at e
      cases e
  obtain ⟨mc, l1, l2⟩ := hlim
  have md : Mod K mg (hidT s1.heap H) := ⟨inH, nsH hns, ⟨mb, nsH hb, hbb⟩, ⟨mc, nsH l1, l2⟩⟩
  have e0 : Env0 P w K mg (hidT s1.heap H) callerA [] s1 H := by
    refine ⟨rfl, md, fun b o e => of_hidT e, Nat.le_of_eq (hidT_size _ _), trivial, ?_, hok, .of_eq hg⟩
    intro b hb
    cases (show b ∈ ([] : List Addr) from hb)
  have run := (F _ inH (nsH hns)).goes callerA [] s1 H ⟨[.ref a], []⟩ [.ref a] [.ref a] _ _ rfl hr e0 (hbind s1 (.ref a)) (.cons rfl .nil) hsp
  refine codeAny_mono run fun r s' h => ?_
  match r, h with
  | .error e, h => exact (show False from h).elim
  | .ok (.ret u), ⟨v, H', os, bare, un, hok', r', q⟩ =>
    obtain rfl : v = .bl true := q
    obtain rfl : u = Value.bool true := r'
    refine ⟨rfl, OldK.of_keep ?_, os, bare⟩
    intro b o e
    cases q : H b with
    | none => exact un.keep b o e q (fun z => by cases (show b ∈ ([] : List Addr) from z)) (fun z => by cases z)
    | some u =>
      rcases hO b with z | ⟨ob, xs, z⟩
      · rw [q] at z
        cases z
      · have k1 := (hok b _ z).1
        have k2 := (hok' b _ (un.frzs b ob _ z)).1
        rw [e] at k1
        cases k1
        exact k2
theorem law_g (KX : K.In s1.heap) (hns : s1.heap.Ns mainGlobals mg) (hb : s1.heap.Ns builtinsNs mb) (hbb : ∀ x : Str, x ≠ "__name__" → mb x = bootBuiltins x) (hlim : s1.heap.NoLimit) (hg : s1.gens = #[])
    (ha : s1.heap.get? a = some { cls := .type "list", data := .seq vs.toArray }) (hi : IntsAre vs ns) (hl : ns.length ≤ sizeLine) (hr : Room k callerA) (F : ∀ base : Heap, K.In base → base.Ns mainGlobals mg → FnG P w K mg base k fa fd [x] sp)
    (hbind : ∀ (s : Shared) (u : Value), BindsTo s fd ⟨[u], []⟩ [(x, u)]) (hsp : ∀ H : Hp, Only H → SqL K H a (ns.map V.int) → sp [.ref a] H (fun v _ => v = .bl true) fun _ _ _ => False) :
    codeAny (model P w) callerA (.call (.ref fa) ⟨[.ref a], []⟩) (fun r s' => r = .ok (.ret (.bool true)) ∧ OldK s1.heap s'.heap ∧ s'.os = s1.os ∧ AllBare s'.gens) s1 := by
  have rv := vals_ints hi
  have lv := hi.length
  cases hk : K.lookup a with
  | some o =>
    have e := KX a o hk
    rw [ha] at e
    cases e
    refine law_from (H := fun _ => none) KX hns hb hbb hlim hg ha hr F hbind (fun _ => Or.inl rfl) (fun b u z => ?_) (fun b z => absurd rfl z) (fun z => absurd rfl z) (hsp _ (fun _ => Or.inl rfl) (Or.inr ?_))
    · cases (show (none : Option HO) = some u from z)
    · exact ⟨_, vs.toArray, _, hk, rfl, rfl, rfl, by rw [List.size_toArray, lv]; exact hl, by simpa using rv⟩
  | none =>
    let ob : Obj := { cls := .type "list", data := .seq vs.toArray }
    have one : ∀ b, (if b = a then some (HO.frz ob (.lst (ns.map V.int))) else none) ≠ none → b = a := fun b z => by
      by_cases hb : b = a
      · exact hb
      · exact absurd (if_neg hb) z
    have only : Only (fun b => if b = a then some (HO.frz ob (.lst (ns.map V.int))) else none) := fun b => by
      by_cases hb : b = a
      · exact Or.inr ⟨_, _, if_pos hb⟩
      · exact Or.inl (if_neg hb)
    refine law_from (H := fun b => if b = a then some (HO.frz ob (.lst (ns.map V.int))) else none) KX hns hb hbb hlim hg ha hr F hbind only (fun b u z => ?_) one (fun _ => hk) (hsp _ only (Or.inl (Or.inr ⟨ob, if_pos rfl⟩)))
    by_cases hb : b = a
    · obtain rfl := Option.some.inj ((if_pos hb).symm.trans z)
      subst hb
      exact ⟨ha, by rw [List.length_map]; exact hl, vs, _, rv, ha⟩
    · cases (if_neg hb).symm.trans z
end
theorem walk_g {l : PySem.W.OpenLaw} {n k : Nat} {q : Program} {loose : List Str} {XP : (Str → Option Value) → Heap → Prop} {YP : World → Heap → Prop} {d : DefRec} {K : Params → PySem.W.Frag} {sp : PySem.W.Frag → Sp} {x : Str}
    (hn : l.most = some n) (hn2 : n ≤ sizeLine) (hdf : d.params.defaults = []) (hr : Room k callerA) (hY : ∀ (w : World) (h : Heap), YP w h → (K w.params).In h)
    (F : ∀ (w : World) (mg : Str → Option Value) (fa : Addr) (h : Heap), (K w.params).In h → h.Ns mainGlobals mg → mg d.name = some (.ref fa) → ∃ fd : FuncData, (∀ (s : Shared) (u : Value), BindsTo s fd ⟨[u], []⟩ [(x, u)]) ∧
        ∀ base : Heap, (K w.params).In base → base.Ns mainGlobals mg → FnG l.prog w (K w.params) mg base k fa fd [x] (sp (K w.params)))
    (hsp : ∀ (K : PySem.W.Frag) (H : Hp) (a : Addr) (ns : List Int), ns.length ≤ n → SqL K H a (ns.map V.int) → sp K [.ref a] H (fun v _ => v = .bl true) fun _ _ _ => False) :
    PySem.W.WalkO q loose XP YP l.row.toRowW d [] (fun f vs => PySem.call f vs) := by
  refine Att.attach_call hn hdf fun w s0 s1 mg mb fa o pm cd doc a vs ns G Y ho hd hcd hmg hobj hints hlen hg => ?_
  obtain ⟨fd, hb, hF⟩ := F w mg fa _ (hY w _ Y) G.T.g hmg
  exact law_g (hY w _ Y) G.T.g G.T.b G.T.builtins G.T.nolimit hg hobj hints (Nat.le_trans hlen hn2) hr hF hb fun H _ hS => hsp (K w.params) H a ns hlen hS
end Gd
set_option Elab.async false
set_option linter.all false
set_option maxRecDepth 100000
/-! Common words: sizes of ints, heaps that grow, defs of the text by their names. -/
namespace Gd
open PySem PySem.Spec PyProof.Rows L2
/-! ### sizes -/
def B (n : Nat) (x : Int) : Prop := x.natAbs < 2 ^ n
theorem B.up {m n : Nat} {x : Int} (h : B m x) (k : m ≤ n) : B n x := Nat.lt_of_lt_of_le h (Nat.pow_le_pow_right (by decide) k)
theorem B.add {m n : Nat} {x y : Int} (hx : B m x) (hy : B n y) : B (max m n + 1) (x + y) := by
  have h1 : x.natAbs < 2 ^ max m n := hx.up (Nat.le_max_left m n)
  have h2 : y.natAbs < 2 ^ max m n := hy.up (Nat.le_max_right m n)
  unfold B
  rw [Nat.pow_succ]
  omega
theorem B.neg {n : Nat} {x : Int} (hx : B n x) : B n (-x) := by
  unfold B at *
  omega
theorem B.sub {m n : Nat} {x y : Int} (hx : B m x) (hy : B n y) : B (max m n + 1) (x - y) := by
  rw [Int.sub_eq_add_neg]
  exact hx.add hy.neg
theorem B.mul {m n : Nat} {x y : Int} (hx : B m x) (hy : B n y) : B (m + n) (x * y) := wide_lt hx hy
theorem B.pow {m : Nat} {x : Int} (hx : B m x) : ∀ k : Nat, B (m * k + 1) (x ^ k)
  | 0 => by
    rw [Int.pow_zero]
    exact Nat.one_lt_two_pow (by omega)
  | k + 1 => by
    rw [Int.pow_succ]
    exact ((B.pow hx k).mul hx).up (by rw [Nat.mul_succ]; omega)
theorem B.lit {n : Nat} {x : Int} (h : x.natAbs < 2 ^ n) : B n x := h
theorem B.mulW {m n : Nat} {x y : Int} (hx : B m x) (hy : B n y) (h : m + n ≤ 900000) : CMulW x y :=
  wide_mul (hx.up (Nat.le_add_right m 1)) (hy.up (Nat.le_add_right n 1)) (by omega) (by omega) (by omega)
theorem B.mulL {n : Nat} {x y : Int} (hx : B n x) (h : n ≤ 64) : CMul x y := by
  have h1 := hx.up h
  unfold B at h1
  exact Or.inl ⟨by omega, by omega⟩
theorem B.mulR {n : Nat} {x y : Int} (hy : B n y) (h : n ≤ 64) : CMul x y := by
  have h1 := hy.up h
  unfold B at h1
  exact Or.inr ⟨by omega, by omega⟩
theorem B.log {n : Nat} {x : Int} (hx : B n x) (h : n ≤ 1900) : x.natAbs.log2 < 1920 := by
  have h1 : x.natAbs < 2 ^ 1901 := hx.up (by omega)
  exact PySem.Flt.log2_lt_of (by decide) (Nat.lt_of_lt_of_le h1 (Nat.pow_le_pow_right (by decide) (by decide)))
theorem B.between {n : Nat} {x : Int} (m : Int) (h0 : -m ≤ x) (h1 : x ≤ m) (h : m.natAbs < 2 ^ n) : B n x := by
  unfold B
  omega
theorem small {n : Nat} (h : n ≤ 1000) : n ≤ sizeLine := Nat.le_trans h (by decide)
/-! ### heaps -/
theorem Same.new {H : Hp} {p : Addr} {o : HO} (h : H p = none) : Same H (upd H p o) := fun b x e => by
  rw [upd_ne (ne_of_none e h)]
  exact e
theorem Same.put {H H1 : Hp} {p : Addr} {o : HO} (s : Same H H1) (h : H p = none) : Same H (upd H1 p o) := fun b x e => by
  rw [upd_ne (ne_of_none e h)]
  exact s b x e
theorem Same.rd {H H' : Hp} {a : Addr} {u : HO} (e : Same H H') (h : Rd H a u) : Rd H' a u := by
  rcases h with h | ⟨o, h⟩
  · exact Or.inl (e _ _ h)
  · exact Or.inr ⟨o, e _ _ h⟩
theorem Same.tup {K : PySem.W.Frag} {H H' : Hp} {a : Addr} {xs : List V} (e : Same H H') (h : SqT K H a xs) : SqT K H' a xs := by
  rcases h with h | h
  · exact Or.inl (Same.rd e h)
  · exact Or.inr h
theorem tup_of {K : PySem.W.Frag} {H : Hp} {a : Addr} {xs : List V} (h : H a = some (.tup xs)) : SqT K H a xs := Or.inl (Or.inl h)
theorem lst_of {K : PySem.W.Frag} {H : Hp} {a : Addr} {xs : List V} (h : H a = some (.lst xs)) : SqL K H a xs := Or.inl (Or.inl h)
/-- all but what stands at m is as it was -/
def But (m : Addr) (H H' : Hp) : Prop := ∀ b o, H b = some o → b ≠ m → H' b = some o
theorem But.refl (m : Addr) (H : Hp) : But m H H := fun _ _ e _ => e
theorem But.trans {m : Addr} {H H1 H2 : Hp} (a : But m H H1) (b : But m H1 H2) : But m H H2 := fun c o e n => b c o (a c o e n) n
theorem But.of {m : Addr} {H H' : Hp} (a : Same H H') : But m H H' := fun c o e _ => a c o e
theorem But.upd {m : Addr} {H : Hp} {o : HO} : But m H (upd H m o) := fun c x e n => by
  rw [upd_ne n]
  exact e
/-- the same where m was not known -/
theorem But.same {m : Addr} {H H1 H2 : Hp} (s : Same H H1) (b : But m H1 H2) (h : H m = none) : Same H H2 := fun c o e => b c o (s c o e) (ne_of_none e h)
/-- the slots said anew -/
theorem sig {nx : L2.St → Hp → Prop} {σ : L2.St} {H : Hp} (σ' : L2.St) (e : σ = σ') (h : nx σ' H) : nx σ H := e ▸ h
theorem sigN {nx : L2.St → Hp → Prop} {i : Nat} {v : V} {σ : L2.St} {H : Hp} (σ' : L2.St) (e : σ.set i (some v) = σ') (h : nx σ' H) : gName i v σ H nx := by
  subst e
  exact h
/-- a number of the module -/
theorem pe_kon {X : Cx} {x : Str} {pos : Pos} {v : V} (hg : Gl X x) (h : ∃ u, X.mg x = some u ∧ RelV v u) (hd : (x == ("__debug__" : Str)) = false := by decide) : PE X (.Name x pos) (tC v) := by
  obtain ⟨u, hm, r⟩ := h
  exact pe_glob hg hm r hd
/-- int(n) of a number -/
theorem call_intI {X : Cx} : CallR X (.type "int") (fun xs H Q => ∃ i, xs = [.int i] ∧ Q (.int i) H) := fun pins s σ H xs us Q I r h => call_int1 pins s σ H xs us Q I r (Or.inl h)
/-! ### the state of the draws: four entries -/
def mk4 (L s : Int) (c : Addr) (n : Int) : List (Key × V) := [(Sum.inr "left", .int L), (Sum.inr "seed", .int s), (Sum.inr "cells", .ref c), (Sum.inr "spot", .int n)]
theorem kn12 : ¬ (("left" : Str) = "seed") := by decide +kernel
theorem kn13 : ¬ (("left" : Str) = "cells") := by decide +kernel
theorem kn14 : ¬ (("left" : Str) = "spot") := by decide +kernel
theorem kn23 : ¬ (("seed" : Str) = "cells") := by decide +kernel
theorem kn24 : ¬ (("seed" : Str) = "spot") := by decide +kernel
theorem kn34 : ¬ (("cells" : Str) = "spot") := by decide +kernel
theorem kn21 : ¬ (("seed" : Str) = "left") := by decide +kernel
theorem kn31 : ¬ (("cells" : Str) = "left") := by decide +kernel
theorem kn41 : ¬ (("spot" : Str) = "left") := by decide +kernel
theorem kn42 : ¬ (("spot" : Str) = "seed") := by decide +kernel
theorem kn43 : ¬ (("spot" : Str) = "cells") := by decide +kernel
theorem kn32 : ¬ (("cells" : Str) = "seed") := by decide +kernel
section
variable {L s n : Int} {c : Addr}
theorem m4_left : valV (mk4 L s c n) (Sum.inr "left") = some (.int L) := by simp [valV, mk4, List.find?_cons]
theorem m4_seed : valV (mk4 L s c n) (Sum.inr "seed") = some (.int s) := by simp [valV, mk4, List.find?_cons, kn12]
theorem m4_cells : valV (mk4 L s c n) (Sum.inr "cells") = some (.ref c) := by simp [valV, mk4, List.find?_cons, kn13, kn23]
theorem m4_spot : valV (mk4 L s c n) (Sum.inr "spot") = some (.int n) := by simp [valV, mk4, List.find?_cons, kn14, kn24, kn34]
theorem m4_putL (y : Int) : putK (mk4 L s c n) (Sum.inr "left") (.int y) = mk4 y s c n := by simp [putK, mk4, kn21, kn31, kn41]
theorem m4_merge : mergeK [] (mk4 L s c n) = mk4 L s c n := by simp [mergeK, putK, mk4, List.foldl, kn12, kn13, kn14, kn23, kn24, kn34]
theorem m4_putS (y : Int) : putK (mk4 L s c n) (Sum.inr "spot") (.int y) = mk4 L s c y := by simp [putK, mk4, kn14, kn24, kn34]
end
/-- the state stands at m, with at most n draws out of the cells behind it -/
def MAt (H : Hp) (m c : Addr) (n : Nat) : Prop := ∃ (L s : Int) (cs : List Int) (k : Nat), H m = some (.dK (mk4 L s c (k : Int))) ∧ k ≤ n ∧ H c = some (.lst (cs.map V.int)) ∧ 0 < cs.length
theorem MAt.up {H : Hp} {m cl : Addr} {n n' : Nat} (h : MAt H m cl n) (k : n ≤ n') : MAt H m cl n' := by
  obtain ⟨L, s, cs, j, h1, h2, h3, h4⟩ := h
  exact ⟨L, s, cs, j, h1, Nat.le_trans h2 k, h3, h4⟩
theorem MAt.same {H H' : Hp} {m cl : Addr} {n : Nat} (h : MAt H m cl n) (e : Same H H') : MAt H' m cl n := by
  obtain ⟨L, s, cs, j, h1, h2, h3, h4⟩ := h
  exact ⟨L, s, cs, j, e _ _ h1, h2, e _ _ h3, h4⟩
theorem MAt.some {H : Hp} {m cl : Addr} {n : Nat} (h : MAt H m cl n) : ∃ kvs, H m = some (.dK kvs) := by
  obtain ⟨L, s, cs, j, h1, _⟩ := h
  exact ⟨_, h1⟩
theorem MAt.ne {H : Hp} {m cl p : Addr} {n : Nat} (h : MAt H m cl n) (e : H p = none) : m ≠ p ∧ cl ≠ p := by
  obtain ⟨L, s, cs, j, h1, h2, h3, h4⟩ := h
  exact ⟨ne_of_none h1 e, ne_of_none h3 e⟩
theorem MAt.put {H : Hp} {m cl p : Addr} {n : Nat} {o : HO} (h : MAt H m cl n) (e : m ≠ p ∧ cl ≠ p) : MAt (upd H p o) m cl n := by
  obtain ⟨L, s, cs, j, h1, h2, h3, h4⟩ := h
  refine ⟨L, s, cs, j, ?_, h2, ?_, h4⟩
  · rw [upd_ne e.1]
    exact h1
  · rw [upd_ne e.2]
    exact h3
/-- what the draws leave: fresh stays fresh -/
theorem But.free {m p cl : Addr} {H H' : Hp} {n : Nat} (b : But m H H') (h : MAt H' m cl n) (e : H' p = none) : H p = none := by
  obtain ⟨kvs, hm⟩ := h.some
  cases q : H p with
  | none => rfl
  | some o =>
    by_cases hp : p = m
    · subst hp
      rw [hm] at e
      cases e
    · rw [b p o q hp] at e
      cases e
theorem But.tup {m p cl : Addr} {H H' : Hp} {n : Nat} {xs : List V} (b : But m H H') (h : MAt H m cl n) (e : H p = some (.tup xs)) : H' p = some (.tup xs) := by
  obtain ⟨kvs, hm⟩ := h.some
  exact b p _ e (ne_of e hm (by intro z; cases z))
theorem But.lst {m p cl : Addr} {H H' : Hp} {n : Nat} {xs : List V} (b : But m H H') (h : MAt H m cl n) (e : H p = some (.lst xs)) : H' p = some (.lst xs) := by
  obtain ⟨kvs, hm⟩ := h.some
  exact b p _ e (ne_of e hm (by intro z; cases z))
theorem But.seqL {K : PySem.W.Frag} {m p cl : Addr} {H H' : Hp} {n : Nat} {xs : List V} (b : But m H H') (h : MAt H m cl n) (e : SqL K H p xs) : SqL K H' p xs := by
  obtain ⟨kvs, hm⟩ := h.some
  rcases e with (e | ⟨o, e⟩) | e
  · exact Or.inl (Or.inl (b p _ e (ne_of e hm (by intro z; cases z))))
  · exact Or.inl (Or.inr ⟨o, b p _ e (ne_of e hm (by intro z; cases z))⟩)
  · exact Or.inr e
theorem But.seqT {K : PySem.W.Frag} {m p cl : Addr} {H H' : Hp} {n : Nat} {xs : List V} (b : But m H H') (h : MAt H m cl n) (e : SqT K H p xs) : SqT K H' p xs := by
  obtain ⟨kvs, hm⟩ := h.some
  rcases e with (e | ⟨o, e⟩) | e
  · exact Or.inl (Or.inl (b p _ e (ne_of e hm (by intro z; cases z))))
  · exact Or.inl (Or.inr ⟨o, b p _ e (ne_of e hm (by intro z; cases z))⟩)
  · exact Or.inr e
/-! ### tuples -/
theorem catA_any {K : PySem.W.Frag} {H : Hp} {Q : VK} {a b : Addr} {xs ys : List V} (ha : SqT K H a xs) (hb : SqT K H b ys) (hl : xs.length + ys.length ≤ 1000) (k : ∀ p H', Same H H' → SqT K H' p (xs ++ ys) → Q (.ref p) H') : rCatA K (.ref a) (.ref b) H Q := by
  refine ⟨a, b, xs, ys, rfl, rfl, ha, hb, small hl, fun e => ?_, fun _ e => ?_, fun _ _ p hp => k p _ (Same.new hp) (tup_of upd_same)⟩
  · subst e
    exact k b H (Same.refl H) hb
  · subst e
    exact k a H (Same.refl H) (by rw [List.append_nil]; exact ha)
theorem slA_any {K : PySem.W.Frag} {H : Hp} {Q : VK} {a : Addr} {xs : List V} {lo hi : Option Int} (ha : SqT K H a xs) (k : ∀ p H', Same H H' → SqT K H' p (cutV xs lo hi) → Q (.ref p) H') : rSlA K (.ref a) lo hi H Q := by
  refine ⟨a, xs, rfl, ha, fun e => ?_, fun _ p hp => k p _ (Same.new hp) (tup_of upd_same)⟩
  refine k a H (Same.refl H) ?_
  have e2 : cutV xs lo hi = xs := by
    unfold cutV
    rw [e.1, e.2, List.drop_zero, Nat.sub_zero, List.take_length]
  rw [e2]
  exact ha
/-! ### defs by their names -/
structure Df (K : PySem.W.Frag) (mg : Str → Option Value) (x : Str) (st : Stmt) (ps : List Str) : Prop where
  ex : ∃ (f : Addr) (fd : FuncData), Fun K x x st f fd ∧ mg x = some (.ref f) ∧ Binds K fd ps []
section
variable {P : Program} {w : World} {K : PySem.W.Frag} {mg : Str → Option Value} {base : Heap} {x : Str} {st : Stmt} {N ps : List Str} {k : Nat} {sp : Sp}
theorem Kl.by_body (D : Df K mg x st ps) (S : FnScope N ps (defScope st)) (len : ∀ vs H Q E, sp vs H Q E → vs.length = ps.length)
    (hb : ∀ (f : Addr) (cdv : Value) (A : Around) (outer : List Env) (s : Shared) (H : Hp) (vs : List V) (Q : VK) (E : XK), Room k (A.deeper (envOfC x (defScope st) s.heap.objs.size f cdv)) → sp vs H Q E →
      ∃ t, PSs (cxOf CX0 P w K mg base N x (defScope st) f cdv A outer s H E).nox (defBody st) t ∧ t { nx := fun _ H' => Q .non H', rt := Q } (start N vs) H) : Kl P w K mg base (k + 1) x sp := by
  obtain ⟨f, fd, F, hm, b⟩ := D.ex
  exact ⟨f, fd, ps, F.ok S len (hb f), hm, F.kp, b⟩
theorem Kg.by_body (D : Df K mg x st ps) (S : FnScope N ps (defScope st)) (len : ∀ vs H Q E, sp vs H Q E → vs.length = ps.length)
    (hb : ∀ (f : Addr) (cdv : Value) (A : Around) (outer : List Env) (s : Shared) (H : Hp) (vs : List V) (Q : VK) (E : XK), A.guards = some [] → Room k (A.deeper (envOfC x (defScope st) s.heap.objs.size f cdv)) → sp vs H Q E →
      ∃ t, PSs (cxOf CX0 P w K mg base N x (defScope st) f cdv A outer s H E).nox (defBody st) t ∧ t { nx := fun _ H' => Q .non H', rt := Q } (start N vs) H) : Kg P w K mg base (k + 1) x sp := by
  obtain ⟨f, fd, F, hm, b⟩ := D.ex
  exact ⟨f, fd, ps, FnG.by_body F S len (hb f), hm, F.kp, b⟩
theorem df_mk {h : Heap} {f : Addr} {oc : Value} {od an : Option Addr} {osl : Array (Option Value)} {kV doc pm cdv ct : Value} (X : K.In h) (G : h.Ns mainGlobals mg) (a : PySem.W.nsIn K mainGlobals x = some (some (.ref f)))
    (l : K.lookup f = some ⟨oc, od, .func (PySem.W.fnOf x x (defArgs st) (defBody st) (defScope st) .none kV doc pm an cdv ct), osl⟩) (c : PySem.W.codeIn K cdv x = true) (kp : PySem.W.keepIn K (.ref f) = true)
    (hb : ∀ (kV doc pm : Value) (an : Option Addr) (cdv ct : Value) (us : List Value), us.length = ps.length → bindArgs (PySem.W.fnOf x x (defArgs st) (defBody st) (defScope st) .none kV doc pm an cdv ct) ⟨us, []⟩ = pure (ps.zip us)) : Df K mg x st ps :=
  ⟨f, _, fun_mk l c kp, PySem.W.mg_of X G a, (fun_mk l c kp).binds hb⟩
theorem law_fd {h : Heap} {fa f : Addr} {j : Nat} {oc : Value} {od an : Option Addr} {osl : Array (Option Value)} {kV doc pm cdv ct : Value} (X : K.In h) (G : h.Ns mainGlobals mg) (hfa : mg "law" = some (.ref fa)) (a : PySem.W.nsIn K mainGlobals "law" = some (some (.ref f)))
    (l : K.lookup f = some ⟨oc, od, .func (PySem.W.fnOf "law" "law" (defArgs st) (defBody st) (defScope st) .none kV doc pm an cdv ct), osl⟩) (c : PySem.W.codeIn K cdv "law" = true) (kp : PySem.W.keepIn K (.ref f) = true)
    (hb : ∀ (kV doc pm : Value) (an : Option Addr) (cdv ct : Value) (us : List Value), us.length = 1 → bindArgs (PySem.W.fnOf "law" "law" (defArgs st) (defBody st) (defScope st) .none kV doc pm an cdv ct) ⟨us, []⟩ = pure ((["script"] : List Str).zip us))
    (go : ∀ fd, Fun K "law" "law" st fa fd → ∀ base : Heap, FnG P w K mg base j fa fd ["script"] sp) :
    ∃ fd : FuncData, (∀ (s : Shared) (u : Value), BindsTo s fd ⟨[u], []⟩ [("script", u)]) ∧ ∀ base : Heap, K.In base → base.Ns mainGlobals mg → FnG P w K mg base j fa fd ["script"] sp := by
  have e := hfa.symm.trans (PySem.W.mg_of X G a)
  cases e
  exact ⟨_, fun s u => .of_eq (hb kV doc pm an cdv ct [u] rfl), fun base _ _ => go _ (fun_mk l c kp) base⟩
end
end Gd
set_option linter.all false
/-! fractions: plain Lean -/
namespace QM
/-- n / d in lowest terms -/
def sg (n d : Int) : Int := if d < 0 then -((Nat.gcd n.natAbs d.natAbs : Nat) : Int) else ((Nat.gcd n.natAbs d.natAbs : Nat) : Int)
theorem sg_ne {n d : Int} (h : d ≠ 0) : sg n d ≠ 0 := by
  have hp : 0 < Nat.gcd n.natAbs d.natAbs := Nat.gcd_pos_of_pos_right _ (by omega)
  unfold sg
  split <;> omega
theorem fdiv_neg' (a b : Int) : (-a).fdiv (-b) = a.fdiv b := by
  exact Int.neg_fdiv_neg a b
theorem fr_num {n d : Int} (h : d ≠ 0) : n.fdiv (sg n d) = (Rat.divInt n d).num := by
  rw [Rat.num_divInt]
  unfold sg
  have g0 : ((Int.gcd d n : Nat) : Int) = ((Nat.gcd n.natAbs d.natAbs : Nat) : Int) := by rw [Int.gcd_comm]; rfl
  split
  · rename_i e
    rw [Int.sign_eq_neg_one_of_neg e, g0, Int.neg_mul, Int.one_mul]
    have e1 : n.fdiv (-((Nat.gcd n.natAbs d.natAbs : Nat) : Int)) = (-n).fdiv ((Nat.gcd n.natAbs d.natAbs : Nat) : Int) := by
      rw [← fdiv_neg' n, Int.neg_neg]
    rw [e1, Int.fdiv_eq_ediv_of_nonneg _ (by omega)]
  · rename_i e
    rw [Int.sign_eq_one_of_pos (by omega), g0, Int.one_mul, Int.fdiv_eq_ediv_of_nonneg _ (by omega)]
theorem fr_den {n d : Int} (h : d ≠ 0) : d.fdiv (sg n d) = ((Rat.divInt n d).den : Int) := by
  rw [Rat.den_divInt, if_neg h]
  have g0 : Int.gcd d n = Nat.gcd n.natAbs d.natAbs := by rw [Int.gcd_comm]; rfl
  rw [g0]
  unfold sg
  split
  · rename_i e
    have e1 : d.fdiv (-((Nat.gcd n.natAbs d.natAbs : Nat) : Int)) = (-d).fdiv ((Nat.gcd n.natAbs d.natAbs : Nat) : Int) := by
      rw [← fdiv_neg' d, Int.neg_neg]
    rw [e1, Int.fdiv_eq_ediv_of_nonneg _ (by omega), Int.natCast_ediv]
    congr 1
    omega
  · rename_i e
    rw [Int.fdiv_eq_ediv_of_nonneg _ (by omega), Int.natCast_ediv]
    congr 1
    omega
theorem den_ne (a : Rat) : (a.den : Int) ≠ 0 := by
  have := a.den_nz
  omega
theorem denR (a : Rat) : ((a.den : Int) : Rat) ≠ 0 := by
  intro h
  exact den_ne a (by exact_mod_cast h)
theorem as_div (a : Rat) : a = (a.num : Rat) / ((a.den : Int) : Rat) := by
  rw [← Rat.divInt_eq_div, Rat.num_divInt_den]
theorem fr_add (a b : Rat) : Rat.divInt (a.num * b.den + b.num * a.den) (a.den * b.den) = a + b := by
  have ha := denR a
  have hb := denR b
  have ea := as_div a
  have eb := as_div b
  rw [Rat.divInt_eq_div, Rat.intCast_add, Rat.intCast_mul, Rat.intCast_mul, Rat.intCast_mul]
  grind
theorem fr_sub (a b : Rat) : Rat.divInt (a.num * b.den - b.num * a.den) (a.den * b.den) = a - b := by
  have ha := denR a
  have hb := denR b
  have ea := as_div a
  have eb := as_div b
  rw [Rat.divInt_eq_div, Rat.intCast_sub, Rat.intCast_mul, Rat.intCast_mul, Rat.intCast_mul]
  grind
theorem fr_mul (a b : Rat) : Rat.divInt (a.num * b.num) (a.den * b.den) = a * b := by
  have ha := denR a
  have hb := denR b
  have ea := as_div a
  have eb := as_div b
  rw [Rat.divInt_eq_div, Rat.intCast_mul, Rat.intCast_mul]
  grind
theorem num_ne {a : Rat} (h : a ≠ 0) : a.num ≠ 0 := fun e => h (Rat.num_eq_zero.mp e)
theorem fr_div (a b : Rat) (h : b ≠ 0) : Rat.divInt (a.num * b.den) (a.den * b.num) = a / b := by
  have ha := denR a
  have hb := denR b
  have ea := as_div a
  have eb := as_div b
  have hn : (b.num : Rat) ≠ 0 := fun e => num_ne h (by exact_mod_cast e)
  rw [Rat.divInt_eq_div, Rat.intCast_mul, Rat.intCast_mul]
  grind
theorem mul_ne {a b : Int} (h : a ≠ 0) (k : b ≠ 0) : a * b ≠ 0 := Int.mul_ne_zero h k
/-! sizes -/
def RB (n : Nat) (q : Rat) : Prop := q.num.natAbs < 2 ^ n ∧ (q.den : Int).natAbs < 2 ^ n
theorem RB.up {m n : Nat} {q : Rat} (h : RB m q) (k : m ≤ n) : RB n q := ⟨Nat.lt_of_lt_of_le h.1 (Nat.pow_le_pow_right (by decide) k), Nat.lt_of_lt_of_le h.2 (Nat.pow_le_pow_right (by decide) k)⟩
theorem dv_le {x g : Int} (h : g ≠ 0) (d : g ∣ x) : (x.fdiv g).natAbs ≤ x.natAbs := by
  obtain ⟨k, rfl⟩ := d
  rw [Int.mul_fdiv_cancel_left k h, Int.natAbs_mul]
  have h1 : 1 ≤ g.natAbs := by omega
  have h2 : 1 * k.natAbs ≤ g.natAbs * k.natAbs := Nat.mul_le_mul_right _ h1
  omega
theorem sg_dvd (n d : Int) : sg n d ∣ n := by
  have h : ((Nat.gcd n.natAbs d.natAbs : Nat) : Int) ∣ n := Int.ofNat_dvd_left.mpr (Nat.gcd_dvd_left _ _)
  unfold sg
  split
  · exact Int.neg_dvd.mpr h
  · exact h
theorem sg_dvd2 (n d : Int) : sg n d ∣ d := by
  have h : ((Nat.gcd n.natAbs d.natAbs : Nat) : Int) ∣ d := Int.ofNat_dvd_left.mpr (Nat.gcd_dvd_right _ _)
  unfold sg
  split
  · exact Int.neg_dvd.mpr h
  · exact h
theorem RB.of {m : Nat} {n d : Int} (h : d ≠ 0) (hn : n.natAbs < 2 ^ m) (hd : d.natAbs < 2 ^ m) : RB m (Rat.divInt n d) := by
  unfold RB
  rw [← fr_num h, ← fr_den (n := n) h]
  exact ⟨Nat.lt_of_le_of_lt (dv_le (sg_ne h) (sg_dvd n d)) hn, Nat.lt_of_le_of_lt (dv_le (sg_ne h) (sg_dvd2 n d)) hd⟩
theorem pmul {m n a b : Nat} (ha : a < 2 ^ m) (hb : b < 2 ^ n) : a * b < 2 ^ (m + n) := by
  rw [Nat.pow_add]
  rcases Nat.eq_zero_or_pos b with h | h
  · subst h
    rw [Nat.mul_zero]
    exact Nat.mul_pos (Nat.two_pow_pos m) (Nat.two_pow_pos n)
  · exact Nat.mul_lt_mul_of_lt_of_le ha (Nat.le_of_lt hb) (Nat.two_pow_pos n)
theorem RB.add {m n : Nat} {a b : Rat} (ha : RB m a) (hb : RB n b) : RB (m + n + 1) (a + b) := by
  rw [← fr_add]
  have h1 := pmul ha.1 hb.2
  have h2 := pmul ha.2 hb.1
  have h3 := pmul ha.2 hb.2
  refine RB.of (mul_ne (den_ne a) (den_ne b)) ?_ ?_
  · rw [Nat.pow_succ]
    have h4 : (a.num * ↑b.den + b.num * ↑a.den).natAbs ≤ (a.num * ↑b.den).natAbs + (b.num * ↑a.den).natAbs := Int.natAbs_add_le _ _
    rw [Int.natAbs_mul, Int.natAbs_mul, Nat.mul_comm b.num.natAbs] at h4
    omega
  · rw [Nat.pow_succ, Int.natAbs_mul]
    omega
theorem RB.neg {m : Nat} {a : Rat} (ha : RB m a) : RB m (-a) := by
  unfold RB at *
  rw [Rat.neg_num, Rat.neg_den, Int.natAbs_neg]
  exact ha
theorem RB.sub {m n : Nat} {a b : Rat} (ha : RB m a) (hb : RB n b) : RB (m + n + 1) (a - b) := by
  rw [Rat.sub_eq_add_neg]
  exact ha.add hb.neg
theorem RB.mul {m n : Nat} {a b : Rat} (ha : RB m a) (hb : RB n b) : RB (m + n) (a * b) := by
  rw [← fr_mul]
  refine RB.of (mul_ne (den_ne a) (den_ne b)) ?_ ?_
  · rw [Int.natAbs_mul]
    exact pmul ha.1 hb.1
  · rw [Int.natAbs_mul]
    exact pmul ha.2 hb.2
theorem RB.div {m n : Nat} {a b : Rat} (h : b ≠ 0) (ha : RB m a) (hb : RB n b) : RB (m + n) (a / b) := by
  rw [← fr_div a b h]
  refine RB.of (mul_ne (den_ne a) (num_ne h)) ?_ ?_
  · rw [Int.natAbs_mul]
    exact pmul ha.1 hb.2
  · rw [Int.natAbs_mul]
    exact pmul ha.2 hb.1
theorem RB.int {m : Nat} {n : Int} (h : n.natAbs < 2 ^ m) (k : 1 ≤ m) : RB m (n : Rat) := by
  unfold RB
  rw [Rat.num_intCast, Rat.den_intCast]
  exact ⟨h, Nat.lt_of_lt_of_le (by decide : 1 < 2 ^ 1) (Nat.pow_le_pow_right (by decide) k)⟩
theorem RB.pow {m : Nat} {a : Rat} (ha : RB m a) : ∀ k : Nat, RB (m * k + 1) (a ^ k)
  | 0 => by
    rw [Rat.pow_zero]
    exact RB.int (n := 1) (by rw [Nat.mul_zero]; decide) (by omega)
  | k + 1 => by
    rw [Rat.pow_succ]
    exact (RB.mul (RB.pow ha k) ha).up (by rw [Nat.mul_succ]; omega)
/-! powers -/
theorem npow (a : Rat) (k : Nat) : (a ^ k).num = a.num ^ k := Rat.num_pow a k
theorem dpow (a : Rat) (k : Nat) : (a ^ k).den = a.den ^ k := Rat.den_pow a k
theorem le_npow (a : Nat) {k : Nat} (h : 1 ≤ k) : a ≤ a ^ k := by
  rcases Nat.eq_zero_or_pos a with e | e
  · omega
  · calc a = a ^ 1 := (Nat.pow_one a).symm
      _ ≤ a ^ k := Nat.pow_le_pow_right e h
theorem RB.root {m k : Nat} {a : Rat} (h : 1 ≤ k) (ha : RB m (a ^ k)) : RB m a := by
  unfold RB at *
  rw [npow, dpow, Int.natAbs_pow] at ha
  refine ⟨Nat.lt_of_le_of_lt (le_npow _ h) ha.1, ?_⟩
  have e : ((a.den ^ k : Nat) : Int).natAbs = a.den ^ k := Int.natAbs_natCast _
  rw [e] at ha
  rw [Int.natAbs_natCast]
  exact Nat.lt_of_le_of_lt (le_npow _ h) ha.2
theorem num_pos {a : Rat} (h : 0 < a) : 0 < a.num := by
  have h1 : 0 ≤ a.num := Rat.num_nonneg.mpr (Rat.le_of_lt h)
  have h2 : a.num ≠ 0 := num_ne (fun e => by rw [e] at h; exact absurd h (by decide))
  omega
end QM
set_option linter.all false
/-! roots: plain Lean -/
namespace QM
theorem dvd_pow' (a : Nat) {k : Nat} (h : k ≠ 0) : a ∣ a ^ k := by
  obtain ⟨j, rfl⟩ := Nat.exists_eq_succ_of_ne_zero h
  rw [Nat.pow_succ]
  exact Nat.dvd_mul_left a _
theorem ipow_le {a b : Int} (ha : 0 ≤ a) (h : a ≤ b) (k : Nat) : a ^ k ≤ b ^ k := by
  have h1 : a.natAbs ^ k ≤ b.natAbs ^ k := Nat.pow_le_pow_left (by omega) k
  rw [← Int.natAbs_pow, ← Int.natAbs_pow] at h1
  have h2 : 0 ≤ a ^ k := Int.pow_nonneg ha
  have h3 : 0 ≤ b ^ k := Int.pow_nonneg (by omega)
  omega
theorem pow_inj {a b k : Nat} (h : k ≠ 0) (e : a ^ k = b ^ k) : a = b := by
  rcases Nat.lt_trichotomy a b with x | x | x
  · have := Nat.pow_lt_pow_left x h
    omega
  · exact x
  · have := Nat.pow_lt_pow_left x h
    omega
theorem ipow_inj {a b : Int} {k : Nat} (h : k ≠ 0) (ha : 0 ≤ a) (hb : 0 ≤ b) (e : a ^ k = b ^ k) : a = b := by
  have h1 : a.natAbs ^ k = b.natAbs ^ k := by rw [← Int.natAbs_pow, ← Int.natAbs_pow, e]
  have := pow_inj h h1
  omega
theorem qpow_inj {a b : Rat} {k : Nat} (h : k ≠ 0) (ha : 0 < a) (hb : 0 < b) (e : a ^ k = b ^ k) : a = b := by
  have h1 := num_pos ha
  have h2 := num_pos hb
  have e1 : a.num ^ k = b.num ^ k := by rw [← npow, ← npow, e]
  have e2 : a.den ^ k = b.den ^ k := by rw [← dpow, ← dpow, e]
  exact Rat.ext (ipow_inj h (by omega) (by omega) e1) (pow_inj h e2)
/-- the root of a fraction from those of its parts -/
theorem rootQ {k : Nat} (hk : k ≠ 0) {q : Rat} {s t : Int} (hs0 : 0 < s) (ht0 : 0 < t) (hs : s ^ k = q.num) (ht : t ^ k = (q.den : Int)) : ∃ r : Rat, 0 < r ∧ r ^ k = q ∧ r.num = s ∧ (r.den : Int) = t := by
  have e1 : s.natAbs ^ k = q.num.natAbs := by rw [← Int.natAbs_pow, hs]
  have e2 : t.natAbs ^ k = q.den := by
    have h : (t ^ k).natAbs = ((q.den : Int)).natAbs := by rw [ht]
    rw [Int.natAbs_pow, Int.natAbs_natCast] at h
    exact h
  have hc : Nat.Coprime s.natAbs t.natAbs := by
    have c : Nat.Coprime (s.natAbs ^ k) (t.natAbs ^ k) := by
      rw [e1, e2]
      exact q.reduced
    have d1 : s.natAbs ∣ s.natAbs ^ k := dvd_pow' _ hk
    have d2 : t.natAbs ∣ t.natAbs ^ k := dvd_pow' _ hk
    exact Nat.Coprime.coprime_dvd_left d1 (Nat.Coprime.coprime_dvd_right d2 c)
  have hz : t.natAbs ≠ 0 := by omega
  refine ⟨⟨s, t.natAbs, hz, hc⟩, ?_, ?_, rfl, by show ((t.natAbs : Nat) : Int) = t; omega⟩
  · have h1 : (0 : Rat) ≤ ⟨s, t.natAbs, hz, hc⟩ := Rat.num_nonneg.mp (by show 0 ≤ s; omega)
    have h2 : (⟨s, t.natAbs, hz, hc⟩ : Rat) ≠ 0 := fun e => by
      have h3 : s = 0 := congrArg Rat.num e
      omega
    exact Rat.lt_of_le_of_ne h1 (fun e => h2 e.symm)
  · refine Rat.ext ?_ ?_
    · rw [npow]
      exact hs
    · rw [dpow]
      exact e2
/-- Newton's step -/
theorem mono {r s : Int} (hr : 0 ≤ r) (hs : 0 ≤ s) (k : Nat) : r * s ^ k + s * r ^ k ≤ r * r ^ k + s * s ^ k := by
  have key : 0 ≤ (r ^ k - s ^ k) * (r - s) := by
    rcases Int.le_total r s with h | h
    · have h1 : r ^ k ≤ s ^ k := ipow_le hr h k
      have := Int.mul_nonneg (show 0 ≤ s ^ k - r ^ k by omega) (show 0 ≤ s - r by omega)
      grind
    · have h1 : s ^ k ≤ r ^ k := ipow_le hs h k
      exact Int.mul_nonneg (by omega) (by omega)
  grind
theorem amgm {r s : Int} (hr : 0 ≤ r) (hs : 0 ≤ s) : ∀ k : Nat, ((k : Int) + 1) * s * r ^ k ≤ (k : Int) * (r * r ^ k) + s * s ^ k
  | 0 => by simp
  | k + 1 => by
    have h1 := amgm hr hs k
    have h2 := mono hr hs (k + 1)
    have h3 := Int.mul_le_mul_of_nonneg_left h1 hr
    rw [Int.pow_succ, Int.pow_succ] at *
    push_cast
    grind
theorem newton_ge {n r s : Int} {k : Nat} (hr : 1 ≤ r) (hs : 0 ≤ s) (h : s ^ (k + 1) ≤ n) : s ≤ ((k : Int) * r + n.fdiv (r ^ k)).fdiv ((k : Int) + 1) := by
  have hp : 0 < r ^ k := Int.pow_pos (by omega)
  have h1 := amgm (show 0 ≤ r by omega) hs k
  rw [Int.pow_succ] at h
  rw [Int.fdiv_eq_ediv_of_nonneg _ (Int.le_of_lt hp), Int.fdiv_eq_ediv_of_nonneg _ (by omega)]
  rw [Int.le_ediv_iff_mul_le (by omega)]
  have h2 : ((k : Int) + 1) * s - k * r ≤ n / r ^ k := by
    rw [Int.le_ediv_iff_mul_le hp]
    grind
  grind
theorem newton_le {n r : Int} {k : Nat} (hr : 1 ≤ r) (h : r ≤ ((k : Int) * r + n.fdiv (r ^ k)).fdiv ((k : Int) + 1)) : r ^ (k + 1) ≤ n := by
  have hp : 0 < r ^ k := Int.pow_pos (by omega)
  rw [Int.fdiv_eq_ediv_of_nonneg _ (Int.le_of_lt hp), Int.fdiv_eq_ediv_of_nonneg _ (by omega)] at h
  rw [Int.le_ediv_iff_mul_le (by omega)] at h
  have h2 : r ≤ n / r ^ k := by grind
  rw [Int.le_ediv_iff_mul_le hp] at h2
  rw [Int.pow_succ]
  grind
theorem start_ge {n s : Int} {k b : Nat} (hs : 0 ≤ s) (hb : n.natAbs < 2 ^ b) (hk : 0 < k) (h : s ^ k ≤ n) : s ≤ 1 * 2 ^ (b / k + 1) := by
  rw [Int.one_mul]
  rcases Int.le_total s (2 ^ (b / k + 1)) with z | z
  · exact z
  · exfalso
    have h1 : ((2 : Int) ^ (b / k + 1)) ^ k ≤ s ^ k := ipow_le (Int.le_of_lt (Int.pow_pos (by decide))) z k
    rw [← Int.pow_mul] at h1
    have h2 : b ≤ (b / k + 1) * k := by
      have := Nat.lt_div_mul_add (a := b) hk
      rw [Nat.add_mul, Nat.one_mul]
      omega
    have h3 : (2 : Nat) ^ b ≤ 2 ^ ((b / k + 1) * k) := Nat.pow_le_pow_right (by decide) h2
    have h4 : ((2 ^ b : Nat) : Int) ≤ ((2 ^ ((b / k + 1) * k) : Nat) : Int) := Int.ofNat_le.mpr h3
    rw [Int.natCast_pow, Int.natCast_pow] at h4
    have h5 : ((n.natAbs : Nat) : Int) < ((2 ^ b : Nat) : Int) := Int.ofNat_lt.mpr hb
    rw [Int.natCast_pow] at h5
    have e2 : ((2 : Nat) : Int) = 2 := rfl
    rw [e2] at h4 h5
    omega
theorem small_root {n s : Int} {k : Nat} (hs : 0 ≤ s) (hk : 1 ≤ k) (h : s ^ k ≤ n) : s ≤ n := by
  have h1 := le_npow s.natAbs hk
  have h2 : (s ^ k).natAbs = s.natAbs ^ k := Int.natAbs_pow s k
  have h3 : 0 ≤ s ^ k := Int.pow_nonneg hs
  omega
theorem pow01 {n : Int} (h0 : 0 ≤ n) (h2 : n < 2) {k : Nat} (hk : 1 ≤ k) : n ^ k ≤ n := by
  obtain ⟨j, rfl⟩ : ∃ j, k = j + 1 := ⟨k - 1, by omega⟩
  have e : n = 0 ∨ n = 1 := by omega
  rcases e with rfl | rfl
  · rw [Int.pow_succ, Int.mul_zero]
    exact Int.le_refl _
  · rw [Int.one_pow]
    exact Int.le_refl _
/-- the scale between two pairs -/
def U (c4 c6 e4 e6 : Int) (u : Rat) : Prop := 0 < u ∧ u ^ 4 * (e4 : Rat) = (c4 : Rat) ∧ u ^ 6 * (e6 : Rat) = (c6 : Rat)
theorem cz {a : Int} : (a : Rat) = 0 ↔ a = 0 := by
  constructor
  · intro h
    exact_mod_cast h
  · rintro rfl
    rfl
theorem pp {u : Rat} (h : 0 < u) (k : Nat) : u ^ k ≠ 0 := fun e => by
  have h1 := Rat.pow_pos (n := k) h
  rw [e] at h1
  exact absurd h1 (by decide)
theorem U.z4 {c4 c6 e4 e6 : Int} {u : Rat} (h : U c4 c6 e4 e6 u) : c4 = 0 ↔ e4 = 0 := by
  obtain ⟨h0, h1, h2⟩ := h
  have := pp h0 4
  rw [← cz, ← cz (a := e4), ← h1]
  grind
theorem U.z6 {c4 c6 e4 e6 : Int} {u : Rat} (h : U c4 c6 e4 e6 u) : c6 = 0 ↔ e6 = 0 := by
  obtain ⟨h0, h1, h2⟩ := h
  have := pp h0 6
  rw [← cz, ← cz (a := e6), ← h2]
  grind
theorem U.uniq {c4 c6 e4 e6 : Int} {u v : Rat} (z : e4 ≠ 0 ∨ e6 ≠ 0) (h : U c4 c6 e4 e6 u) (k : U c4 c6 e4 e6 v) : u = v := by
  obtain ⟨h0, h1, h2⟩ := h
  obtain ⟨k0, k1, k2⟩ := k
  rcases z with z | z
  · have z' : (e4 : Rat) ≠ 0 := fun e => z (cz.mp e)
    exact qpow_inj (k := 4) (by decide) h0 k0 (by grind)
  · have z' : (e6 : Rat) ≠ 0 := fun e => z (cz.mp e)
    exact qpow_inj (k := 6) (by decide) h0 k0 (by grind)
theorem U.p4 {c4 c6 e4 e6 : Int} {u : Rat} (z : e4 ≠ 0) (h : U c4 c6 e4 e6 u) : u ^ 4 = Rat.divInt c4 e4 := by
  obtain ⟨h0, h1, h2⟩ := h
  have z' : (e4 : Rat) ≠ 0 := fun e => z (cz.mp e)
  rw [Rat.divInt_eq_div]
  grind
theorem U.p6 {c4 c6 e4 e6 : Int} {u : Rat} (z : e6 ≠ 0) (h : U c4 c6 e4 e6 u) : u ^ 6 = Rat.divInt c6 e6 := by
  obtain ⟨h0, h1, h2⟩ := h
  have z' : (e6 : Rat) ≠ 0 := fun e => z (cz.mp e)
  rw [Rat.divInt_eq_div]
  grind
theorem U.p2 {c4 c6 e4 e6 : Int} {u : Rat} (z4 : c4 ≠ 0) (z6 : e6 ≠ 0) (h : U c4 c6 e4 e6 u) : u ^ 2 = Rat.divInt (c6 * e4) (e6 * c4) := by
  obtain ⟨h0, h1, h2⟩ := h
  have z6' : (e6 : Rat) ≠ 0 := fun e => z6 (cz.mp e)
  have z4' : (c4 : Rat) ≠ 0 := fun e => z4 (cz.mp e)
  have := pp h0 4
  rw [Rat.divInt_eq_div, Rat.intCast_mul, Rat.intCast_mul]
  have e : (c6 : Rat) * e4 = u ^ 2 * (e6 * c4) := by
    rw [← h1, ← h2]
    grind
  grind
theorem U.of4 {c4 e4 : Int} {u : Rat} (z : e4 ≠ 0) (h0 : 0 < u) (h : u ^ 4 = Rat.divInt c4 e4) : U c4 0 e4 0 u := by
  have z' : (e4 : Rat) ≠ 0 := fun e => z (cz.mp e)
  rw [Rat.divInt_eq_div] at h
  refine ⟨h0, by grind, by grind⟩
theorem U.of6 {c6 e6 : Int} {u : Rat} (z : e6 ≠ 0) (h0 : 0 < u) (h : u ^ 6 = Rat.divInt c6 e6) : U 0 c6 0 e6 u := by
  have z' : (e6 : Rat) ≠ 0 := fun e => z (cz.mp e)
  rw [Rat.divInt_eq_div] at h
  refine ⟨h0, by grind, by grind⟩
theorem U.of2 {c4 c6 e4 e6 : Int} {u : Rat} (z4 : c4 ≠ 0) (y4 : e4 ≠ 0) (z6 : e6 ≠ 0) (h0 : 0 < u) (h : u ^ 2 = Rat.divInt (c6 * e4) (e6 * c4)) : U c4 c6 e4 e6 u ↔ (u.num * u.num) * (u.num * u.num) * e4 = (u.den * u.den) * (u.den * u.den) * c4 := by
  have z6' : (e6 : Rat) ≠ 0 := fun e => z6 (cz.mp e)
  have z4' : (c4 : Rat) ≠ 0 := fun e => z4 (cz.mp e)
  have y4' : (e4 : Rat) ≠ 0 := fun e => y4 (cz.mp e)
  have hd := denR u
  have hu := as_div u
  rw [Rat.divInt_eq_div, Rat.intCast_mul, Rat.intCast_mul] at h
  have k : u ^ 4 * (e4 : Rat) = c4 ↔ (u.num * u.num) * (u.num * u.num) * e4 = ((u.den : Int) * u.den) * (u.den * u.den) * c4 := by
    rw [← Rat.intCast_inj]
    simp only [Rat.intCast_mul]
    constructor
    · intro e
      grind
    · intro e
      grind
  constructor
  · rintro ⟨_, h1, _⟩
    exact k.mp h1
  · intro e
    have h1 := k.mpr e
    refine ⟨h0, h1, ?_⟩
    have h3 : u ^ 6 = u ^ 4 * u ^ 2 := by grind
    have h5 : (e6 : Rat) * c4 ≠ 0 := fun e => by
      rcases Rat.mul_eq_zero.mp e with e | e
      · exact z6' e
      · exact z4' e
    have h6 : u ^ 2 * ((e6 : Rat) * c4) = c6 * e4 := by
      rw [h]
      grind
    have h7 : u ^ 6 * e6 * c4 = c6 * c4 := by
      rw [h3]
      have : u ^ 4 * u ^ 2 * e6 * c4 = u ^ 4 * (u ^ 2 * (e6 * c4)) := by grind
      rw [this, h6, ← h1]
      grind
    grind
theorem div_ne {n d : Int} (h : n ≠ 0) (k : d ≠ 0) : Rat.divInt n d ≠ 0 := fun e => by
  have hn : (n : Rat) ≠ 0 := fun e => h (cz.mp e)
  have hd : (d : Rat) ≠ 0 := fun e => k (cz.mp e)
  rw [Rat.divInt_eq_div] at e
  grind
theorem qpos {u : Rat} (h : 0 < u) (k : Nat) : 0 < u ^ k := Rat.pow_pos h
theorem U.pos6 {c4 c6 e4 e6 : Int} {u : Rat} (z : e6 ≠ 0) (h : U c4 c6 e4 e6 u) : 0 < (Rat.divInt c6 e6).num := by
  rw [← U.p6 z h]
  exact num_pos (qpos h.1 6)
theorem U.pos4 {c4 c6 e4 e6 : Int} {u : Rat} (z : e4 ≠ 0) (h : U c4 c6 e4 e6 u) : 0 < c4 * e4 := by
  have h1 : 0 < (Rat.divInt c4 e4).num := by
    rw [← U.p4 z h]
    exact num_pos (qpos h.1 4)
  rw [Rat.num_divInt] at h1
  have h2 : 0 < e4.sign * c4 := by
    have hg : (0 : Int) < ((Int.gcd e4 c4 : Nat) : Int) := by
      have := Int.gcd_pos_of_ne_zero_left c4 z
      omega
    have h3 := (Int.le_ediv_iff_mul_le (a := 1) (b := e4.sign * c4) hg).mp (by omega)
    omega
  rcases Int.lt_trichotomy e4 0 with y | y | y
  · rw [Int.sign_eq_neg_one_of_neg y] at h2
    exact Int.mul_pos_of_neg_of_neg (by omega) y
  · exact absurd y z
  · rw [Int.sign_eq_one_of_pos y] at h2
    exact Int.mul_pos (by omega) y
theorem U.sq4 {c4 c6 e4 e6 : Int} {u r : Rat} (z : e4 ≠ 0) (h : U c4 c6 e4 e6 u) (r0 : 0 < r) (re : r ^ 2 = Rat.divInt c4 e4) : u ^ 2 = r := by
  refine qpow_inj (k := 2) (by decide) (qpos h.1 2) r0 ?_
  rw [re, ← U.p4 z h]
  grind
theorem U.sq4' {c4 c6 e4 e6 : Int} {u : Rat} (z : e4 ≠ 0) (h : U c4 c6 e4 e6 u) : (u ^ 2) ^ 2 = Rat.divInt c4 e4 := by
  rw [← U.p4 z h]
  grind
theorem U.cb6 {c4 c6 e4 e6 : Int} {u r : Rat} (z : e6 ≠ 0) (h : U c4 c6 e4 e6 u) (r0 : 0 < r) (re : r ^ 3 = Rat.divInt c6 e6) : u ^ 2 = r := by
  refine qpow_inj (k := 3) (by decide) (qpos h.1 2) r0 ?_
  rw [re, ← U.p6 z h]
  grind
theorem U.cb6' {c4 c6 e4 e6 : Int} {u : Rat} (z : e6 ≠ 0) (h : U c4 c6 e4 e6 u) : (u ^ 2) ^ 3 = Rat.divInt c6 e6 := by
  rw [← U.p6 z h]
  grind
theorem U.iff {c4 c6 e4 e6 : Int} {u : Rat} (h : 0 < u) : U c4 c6 e4 e6 u ↔ (e6 : Rat) * u ^ 6 = (c6 : Rat) ∧ (e4 : Rat) * u ^ 4 = (c4 : Rat) := by
  unfold U
  constructor
  · rintro ⟨_, h1, h2⟩
    exact ⟨by grind, by grind⟩
  · rintro ⟨h1, h2⟩
    exact ⟨h, by grind, by grind⟩
end QM
set_option Elab.async false
set_option linter.all false
set_option maxRecDepth 100000
namespace L2
open PySem PySem.Spec PyProof.Rows
section
variable {X : Cx}
def rIsqrt : List V → Hp → VK → Prop := fun vs H Q => ∃ a : Int, vs = [.int a] ∧ 0 ≤ a ∧ a.natAbs < 2 ^ 4000 ∧ Q (.int ((Float64.isqrt a.toNat : Nat) : Int)) H
theorem isq_int1 {i : Int} {us : List Value} (r : Vals [V.int i] us) : ∃ t, us = [Value.int i t] := by
  obtain ⟨t, u, h⟩ := Vals.int2 (i := i) (j := i) (us := us ++ us) (by
    cases r with
    | cons a b => cases b; exact .cons a (.cons a .nil))
  match us, h with
  | [_], h => exact ⟨t, by simp at h; rw [h.1]⟩
  | [], h => simp at h
  | _ :: _ :: _, h => simp at h
theorem cr_isqrt : CallR X (.builtin "math.isqrt") rIsqrt := by
  intro pins s σ H vs us Q I r h
  obtain ⟨a, rfl, h0, h1, q⟩ := h
  obtain ⟨t, rfl⟩ := isq_int1 r
  have hl : a.toNat.log2 ≤ 3999 := PySem.W.mg_log (k := 3999) (by rw [show a.toNat = a.natAbs by omega]; exact h1)
  exact call_function_meets PySem.W.MGF.kind_isqrt PySem.W.MGF.plain_isqrt PySem.W.MGF.entry_isqrt (PySem.W.MGF.args_isqrt _) (PySem.W.mg_run_isqrt a t (by omega) (by omega) (by omega)).meets ⟨.int _, H, I.tok _, ⟨_, rfl⟩, q⟩
end
end L2
namespace QM
/-- the whole root of a number -/
theorem isqrt_is {n : Int} (h : 0 ≤ n) : ((PySem.Float64.isqrt n.toNat : Nat) : Int) * ((PySem.Float64.isqrt n.toNat : Nat) : Int) ≤ n ∧ ∀ s : Int, 0 ≤ s → s * s ≤ n → s ≤ ((PySem.Float64.isqrt n.toNat : Nat) : Int) := by
  obtain ⟨a, b⟩ := PySem.Float64.isqrt_spec n.toNat
  generalize PySem.Float64.isqrt n.toNat = q at a b
  have e : ((n.toNat : Nat) : Int) = n := Int.toNat_of_nonneg h
  have a' : (q : Int) * q ≤ n := by rw [← e]; exact_mod_cast a
  have b' : n < ((q : Int) + 1) * (q + 1) := by rw [← e]; exact_mod_cast b
  refine ⟨a', fun s hs h1 => ?_⟩
  rcases (show (q : Int) < s ∨ s ≤ q by omega) with z | z
  · exfalso
    have := Int.mul_le_mul (show (q : Int) + 1 ≤ s by omega) (show (q : Int) + 1 ≤ s by omega) (by omega) hs
    omega
  · exact z
end QM
set_option Elab.async false
set_option linter.all false
set_option maxRecDepth 100000
/-! fractions as pairs of ints; promises of the sums -/
namespace Gd
open PySem PySem.Spec PyProof.Rows L2 QM
/-- // by any divisor but 0, below 2 ^ 9000 -/
def CDivAny (_ j : Int) : Prop := j ≠ 0 ∧ j.natAbs.log2 < 9000
theorem op_fdivAny {X : Cx} : OpR X (binaryOp .FloorDiv) (rI CDivAny fun i j => .int (i.fdiv j)) := opI fun _ _ _ _ _ _ _ hc q => floordiv_int hc.1 q (.inl (PyProof.noPylong_of_log2 hc.2))
theorem B.log9 {n : Nat} {x : Int} (hx : B n x) (h : n ≤ 8900) : x.natAbs.log2 < 9000 := by
  have h1 : x.natAbs < 2 ^ 8901 := hx.up (by omega)
  exact PySem.Flt.log2_lt_of (by decide) (Nat.lt_of_lt_of_le h1 (Nat.pow_le_pow_right (by decide) (by decide)))
theorem div_any {m : Nat} {i j : Int} (h : j ≠ 0) (hb : B m j) (hm : m ≤ 8900) : CDivAny i j := ⟨h, hb.log9 hm⟩
theorem gcd_B {m : Nat} {n d : Int} (h : d ≠ 0) (hb : B m d) : B m ((Nat.gcd n.natAbs d.natAbs : Nat) : Int) := by
  unfold B at *
  have h1 : Nat.gcd n.natAbs d.natAbs ≤ d.natAbs := Nat.gcd_le_right _ (by omega)
  omega
theorem sg_B {m : Nat} {n d : Int} (h : d ≠ 0) (hb : B m d) : B m (sg n d) := by
  unfold sg
  split
  · exact (gcd_B h hb).neg
  · exact gcd_B h hb
/-- a fraction's pair -/
def fq (q : Rat) : List V := [.int q.num, .int (q.den : Int)]
theorem fq_div {n d : Int} (h : d ≠ 0) : [V.int (n.fdiv (sg n d)), V.int (d.fdiv (sg n d))] = fq (Rat.divInt n d) := by
  unfold fq
  rw [fr_num h, fr_den h]
theorem fq_int (n : Int) : fq (n : Rat) = [.int n, .int 1] := by
  unfold fq
  rw [Rat.num_intCast, Rat.den_intCast]
  rfl
theorem fq_inj {a b : Rat} (h : fq a = fq b) : a = b := by
  unfold fq at h
  simp only [List.cons.injEq, V.int.injEq, and_true] at h
  exact Rat.ext h.1 (by omega)
def dq (q : Rat) : PyData := .tuple [.int q.num, .int (q.den : Int)]
theorem dp_q {K : PySem.W.Frag} {H : Hp} {p : Addr} {q : Rat} (h : SqT K H p (fq q)) : Dp K H (.ref p) (dq q) := .tup h (.cons (.int _) (.cons (.int _) .nil))
theorem dq_inj {a b : Rat} : dq a = dq b ↔ a = b := by
  constructor
  · intro h
    unfold dq at h
    simp only [PyData.tuple.injEq, List.cons.injEq, PyData.int.injEq, and_true] at h
    exact Rat.ext h.1 (by omega)
  · rintro rfl
    rfl
theorem _root_.QM.RB.n {m : Nat} {q : Rat} (h : RB m q) : B m q.num := h.1
theorem _root_.QM.RB.d {m : Nat} {q : Rat} (h : RB m q) : B m (q.den : Int) := h.2
theorem okq {m : Nat} {q : Rat} (h : RB m q) (k : m ≤ 1900) : okD (dq q) = true := by
  have h1 := B.log (RB.n h) k
  have h2 := B.log (RB.d h) k
  unfold dq
  rw [okD, okAll, okAll, okAll, okD, okD]
  rw [decide_eq_true h1, decide_eq_true h2]
  rfl
def spCut (K : PySem.W.Frag) : Sp := fun vs H Q _ => ∃ n d : Int, vs = [.int n, .int d] ∧ d ≠ 0 ∧ B 8200 n ∧ B 8200 d ∧ ∀ t, H t = none → Q (.ref t) (upd H t (.tup (fq (Rat.divInt n d))))
def spBin (ok : Rat → Rat → Prop) (op : Rat → Rat → Rat) (K : PySem.W.Frag) : Sp := fun vs H Q _ => ∃ (f g : Addr) (a b : Rat), vs = [.ref f, .ref g] ∧ SqT K H f (fq a) ∧ SqT K H g (fq b) ∧ RB 4000 a ∧ RB 4000 b ∧ ok a b ∧ ∀ t, H t = none → Q (.ref t) (upd H t (.tup (fq (op a b))))
/-- a list of fractions -/
def FrL (K : PySem.W.Frag) (H : Hp) (m : Nat) (ps : List (Addr × Rat)) : Prop := ∀ p ∈ ps, SqT K H p.1 (fq p.2) ∧ RB m p.2
def spSum (op : Rat → Rat → Rat) (e : Rat) (K : PySem.W.Frag) : Sp := fun vs H Q _ => ∃ (l : Addr) (ps : List (Addr × Rat)) (m : Nat), vs = [.ref l] ∧ SqL K H l (ps.map fun p => .ref p.1) ∧ FrL K H m ps ∧ ps.length * (m + 1) ≤ 3900 ∧ ∀ H' t, Same H H' → H t = none → H' t = some (.tup (fq (ps.foldl (fun x p => op x p.2) e))) → RB (ps.length * (m + 1) + 1) (ps.foldl (fun x p => op x p.2) e) → Q (.ref t) H'
/-- a list that is being made of the fractions of ints -/
def FrD (H : Hp) (D : Addr) (ns : List Int) (i : Nat) : Prop := ∃ L : List Addr, H D = some (.lst (L.map V.ref)) ∧ L.length = i ∧ ∀ (j : Nat) (p : Addr), L[j]? = some p → ∃ n : Int, ns[j]? = some n ∧ H p = some (.tup (fq (n : Rat)))
theorem FrD.new {H : Hp} {D : Addr} {ns : List Int} : FrD (upd H D (.lst [])) D ns 0 := ⟨[], upd_same, rfl, fun j p h => by simp at h⟩
theorem FrD.push {H : Hp} {D t : Addr} {ns : List Int} {i : Nat} {n : Int} (h : FrD H D ns i) (hi : ns[i]? = some n) (nt : H t = none) (hl : i < 1000) :
    ∃ acc, (upd H t (.tup (fq (n : Rat)))) D = some (.lst acc) ∧ acc.length < sizeLine ∧ FrD (upd (upd H t (.tup (fq (n : Rat)))) D (.lst (acc ++ [.ref t]))) D ns (i + 1) := by
  obtain ⟨L, h1, h2, h3⟩ := h
  have hDt : D ≠ t := ne_of_none h1 nt
  refine ⟨L.map V.ref, by rw [upd_ne hDt]; exact h1, by rw [List.length_map]; exact small1000 (by omega), L ++ [t], ?_, by rw [List.length_append, h2]; rfl, fun j p hj => ?_⟩
  · rw [upd_same, List.map_append]
    rfl
  · rcases Nat.lt_or_ge j L.length with z | z
    · rw [List.getElem?_append_left z] at hj
      obtain ⟨m, hm, hp⟩ := h3 j p hj
      refine ⟨m, hm, ?_⟩
      have hpD : p ≠ D := ne_of hp h1 (by intro z; cases z)
      rw [upd_ne hpD, upd_ne (ne_of_none hp nt)]
      exact hp
    · rw [List.getElem?_append_right z] at hj
      have e : j - L.length = 0 := by
        rcases Nat.eq_zero_or_pos (j - L.length) with q | q
        · exact q
        · rw [List.getElem?_eq_none (by simp; omega)] at hj
          cases hj
      rw [e] at hj
      obtain rfl := Option.some.inj hj
      have ej : j = i := by omega
      refine ⟨n, by rw [ej]; exact hi, ?_⟩
      rw [upd_ne (fun q => hDt q.symm), upd_same]
theorem FrD.five {H : Hp} {D : Addr} {a b c d e : Int} (h : FrD H D [a, b, c, d, e] 5) : ∃ p1 p2 p3 p4 p5, H D = some (.lst [.ref p1, .ref p2, .ref p3, .ref p4, .ref p5]) ∧ H p1 = some (.tup (fq (a : Rat))) ∧ H p2 = some (.tup (fq (b : Rat))) ∧ H p3 = some (.tup (fq (c : Rat))) ∧ H p4 = some (.tup (fq (d : Rat))) ∧ H p5 = some (.tup (fq (e : Rat))) := by
  obtain ⟨L, h1, h2, h3⟩ := h
  match L, h2 with
  | [p1, p2, p3, p4, p5], _ =>
    have g : ∀ (j : Nat) (p : Addr) (n : Int), [p1, p2, p3, p4, p5][j]? = some p → [a, b, c, d, e][j]? = some n → H p = some (.tup (fq (n : Rat))) := fun j p n x y => by
      obtain ⟨m, hm, hp⟩ := h3 j p x
      rw [y] at hm
      obtain rfl := Option.some.inj hm
      exact hp
    exact ⟨p1, p2, p3, p4, p5, h1, g 0 _ _ rfl rfl, g 1 _ _ rfl rfl, g 2 _ _ rfl rfl, g 3 _ _ rfl rfl, g 4 _ _ rfl rfl⟩
/-! what stands of fractions in the heap -/
def FrE (K : PySem.W.Frag) (H : Hp) (es : List (Addr × Rat × Nat)) : Prop := ∀ x ∈ es, SqT K H x.1 (fq x.2.1) ∧ RB x.2.2 x.2.1
section
variable {K : PySem.W.Frag} {H H' : Hp} {es : List (Addr × Rat × Nat)} {p r : Addr} {a b : Rat} {m n : Nat} {Q : VK} {Z : XK}
theorem FrE.nil : FrE K H [] := fun x h => by cases h
theorem FrE.same (h : FrE K H es) (s : Same H H') : FrE K H' es := fun x k => ⟨Same.tup s (h x k).1, (h x k).2⟩
theorem FrE.get (h : FrE K H es) (k : (p, a, m) ∈ es) : SqT K H p (fq a) := (h _ k).1
theorem FrE.rb (h : FrE K H es) (k : (p, a, m) ∈ es) : RB m a := (h _ k).2
theorem FrE.add (h : FrE K H es) (k : SqT K H p (fq a)) (b : RB m a) : FrE K H ((p, a, m) :: es) := fun x z => by
  rcases List.mem_cons.mp z with rfl | z
  · exact ⟨k, b⟩
  · exact h x z
theorem FrE.re (h : FrE K H ((p, a, m) :: es)) (e : a = b) (k : RB n b) : FrE K H ((p, b, n) :: es) := fun x z => by
  subst e
  rcases List.mem_cons.mp z with rfl | z
  · exact ⟨(h _ List.mem_cons_self).1, k⟩
  · exact h x (List.mem_cons_of_mem _ z)
theorem FrE.sub {fs : List (Addr × Rat × Nat)} (h : FrE K H es) (k : ∀ x ∈ fs, x ∈ es) : FrE K H fs := fun x z => h x (k x z)
theorem stepE (E : FrE K H es) {t : Addr} (n : H t = none) {c : Rat} {k : Nat} (hb : RB k c) : ∃ H', upd H t (.tup (fq c)) = H' ∧ Same H H' ∧ FrE K H' ((t, c, k) :: es) :=
  ⟨_, rfl, Same.new n, (E.same (Same.new n)).add (tup_of upd_same) hb⟩
theorem litE (E : FrE K H es) {t : Addr} (n : H t = none) {vs : List V} {c : Rat} {k : Nat} (e : vs = fq c) (hb : RB k c) : ∃ H', upd H t (.tup vs) = H' ∧ Same H H' ∧ FrE K H' ((t, c, k) :: es) := by
  subst e
  exact stepE E n hb
theorem FrL.nil {M : Nat} : FrL K H M [] := fun x h => by cases h
theorem FrL.cons {M : Nat} {ps : List (Addr × Rat)} (E : FrE K H es) (k : (p, a, m) ∈ es) (hm : m ≤ M) (h : FrL K H M ps) : FrL K H M ((p, a) :: ps) := fun x z => by
  rcases List.mem_cons.mp z with rfl | z
  · exact ⟨E.get k, (E.rb k).up hm⟩
  · exact h x z
end
mutual
theorem dp_same {K : PySem.W.Frag} {H H' : Hp} (s : Same H H') : ∀ (d : PyData) (v : V), Dp K H v d → Dp K H' v d
  | .none, _, h => by
    cases h
    exact .non
  | .bool _, _, h => by
    cases h
    exact .bl _
  | .int _, _, h => by
    cases h
    exact .int _
  | .str _, _, h => by
    cases h
    exact .str _
  | .list ds, _, h => by
    cases h with
    | lst h1 h2 => exact .lst (s.seq h1) (dp_sameAll s ds _ h2)
  | .tuple ds, _, h => by
    cases h with
    | tup h1 h2 => exact .tup (Same.tup s h1) (dp_sameAll s ds _ h2)
  | .dict _, _, h => by cases h
theorem dp_sameAll {K : PySem.W.Frag} {H H' : Hp} (s : Same H H') : ∀ (ds : List PyData) (vs : List V), DpAll K H vs ds → DpAll K H' vs ds
  | [], _, h => by
    cases h
    exact .nil
  | d :: ds, _, h => by
    cases h with
    | cons h1 h2 => exact .cons (dp_same s d _ h1) (dp_sameAll s ds _ h2)
end
/-- a list's cell is no tuple's -/
theorem tup_put {K : PySem.W.Frag} {H : Hp} {D p : Addr} {L xs : List V} {o : HO} (hD : H D = some (.lst L)) (e : SqT K H p xs) : SqT K (upd H D o) p xs := by
  rcases e with (e | ⟨z, e⟩) | e
  · refine Or.inl (Or.inl ?_)
    rw [upd_ne (ne_of e hD (by intro z; cases z))]
    exact e
  · refine Or.inl (Or.inr ⟨z, ?_⟩)
    rw [upd_ne (ne_of e hD (by intro z; cases z))]
    exact e
  · exact Or.inr e
mutual
def noL : PyData → Bool
  | .list _ => false
  | .tuple ds => noLAll ds
  | .dict _ => false
  | _ => true
def noLAll : List PyData → Bool
  | [] => true
  | d :: ds => noL d && noLAll ds
end
mutual
theorem dp_put {K : PySem.W.Frag} {H : Hp} {D : Addr} {L : List V} {o : HO} (hD : H D = some (.lst L)) : ∀ (d : PyData) (v : V), noL d = true → Dp K H v d → Dp K (upd H D o) v d
  | .none, _, _, h => by
    cases h
    exact .non
  | .bool _, _, _, h => by
    cases h
    exact .bl _
  | .int _, _, _, h => by
    cases h
    exact .int _
  | .str _, _, _, h => by
    cases h
    exact .str _
  | .list ds, _, n, h => by
    rw [noL] at n
    cases n
  | .tuple ds, _, n, h => by
    rw [noL] at n
    cases h with
    | tup h1 h2 => exact .tup (tup_put hD h1) (dp_putAll hD ds _ n h2)
  | .dict _, _, _, h => by cases h
theorem dp_putAll {K : PySem.W.Frag} {H : Hp} {D : Addr} {L : List V} {o : HO} (hD : H D = some (.lst L)) : ∀ (ds : List PyData) (vs : List V), noLAll ds = true → DpAll K H vs ds → DpAll K (upd H D o) vs ds
  | [], _, _, h => by
    cases h
    exact .nil
  | d :: ds, _, n, h => by
    rw [noLAll, Bool.and_eq_true] at n
    cases h with
    | cons h1 h2 => exact .cons (dp_put hD d _ n.1 h1) (dp_putAll hD ds _ n.2 h2)
end
end Gd
/-! Reckoning modulo n, inverses by Euclid's divisions: plain mathematics. -/
set_option linter.all false
namespace K45M
/-- one modulo n -/
def Mo (n a b : Int) : Prop := a % n = b % n
section
variable {n a b c d : Int}
theorem Mo.rfl' : Mo n a a := rfl
theorem Mo.of_eq (h : a = b) : Mo n a b := by rw [h]; exact Mo.rfl'
theorem Mo.symm (h : Mo n a b) : Mo n b a := Eq.symm h
theorem Mo.trans (h : Mo n a b) (k : Mo n b c) : Mo n a c := Eq.trans h k
theorem Mo.add (h : Mo n a b) (k : Mo n c d) : Mo n (a + c) (b + d) := by
  unfold Mo at *
  rw [Int.add_emod, h, k, ← Int.add_emod]
theorem Mo.sub (h : Mo n a b) (k : Mo n c d) : Mo n (a - c) (b - d) := by
  unfold Mo at *
  rw [Int.sub_emod, h, k, ← Int.sub_emod]
theorem Mo.mul (h : Mo n a b) (k : Mo n c d) : Mo n (a * c) (b * d) := by
  unfold Mo at *
  rw [Int.mul_emod, h, k, ← Int.mul_emod]
theorem Mo.neg (h : Mo n a b) : Mo n (-a) (-b) := by
  have := (Mo.rfl' (n := n) (a := 0)).sub h
  rw [Int.zero_sub, Int.zero_sub] at this
  exact this
theorem Mo.mod : Mo n (a % n) a := Int.emod_emod_of_dvd a (Int.dvd_refl n)
theorem Mo.iff_dvd : Mo n a b ↔ n ∣ a - b := by
  unfold Mo
  exact Int.emod_eq_emod_iff_emod_sub_eq_zero.trans (Int.dvd_iff_emod_eq_zero).symm
theorem Mo.zero : Mo n a 0 ↔ n ∣ a := by
  rw [Mo.iff_dvd, Int.sub_zero]
/-- a digit -/
def Dg (n a : Int) : Prop := 0 ≤ a ∧ a < n
theorem Dg.eq (ha : Dg n a) (hb : Dg n b) (h : Mo n a b) : a = b := by
  unfold Mo at h
  rwa [Int.emod_eq_of_lt ha.1 ha.2, Int.emod_eq_of_lt hb.1 hb.2] at h
theorem Dg.mod (hn : 0 < n) : Dg n (a % n) := ⟨Int.emod_nonneg _ (by omega), Int.emod_lt_of_pos _ hn⟩
/-- z has an inverse -/
def Un (n z : Int) : Prop := ∃ t, Mo n (z * t) 1
theorem Un.mul {y z : Int} (hy : Un n y) (hz : Un n z) : Un n (y * z) := by
  obtain ⟨s, hs⟩ := hy
  obtain ⟨t, ht⟩ := hz
  refine ⟨s * t, ?_⟩
  have := hs.mul ht
  rw [Int.mul_one] at this
  exact (Mo.of_eq (by ac_rfl)).trans this
theorem Un.one : Un n 1 := ⟨1, Mo.rfl'⟩
theorem Un.congr {y z : Int} (h : Mo n y z) (hy : Un n y) : Un n z := by
  obtain ⟨s, hs⟩ := hy
  exact ⟨s, (h.symm.mul Mo.rfl').trans hs⟩
theorem Un.of_mul {y z : Int} (h : Un n (y * z)) : Un n y ∧ Un n z := by
  obtain ⟨s, hs⟩ := h
  exact ⟨⟨z * s, (Mo.of_eq (by ac_rfl)).trans hs⟩, ⟨y * s, (Mo.of_eq (by ac_rfl)).trans hs⟩⟩
theorem Un.cancel {z : Int} (hz : Un n z) (h : Mo n (a * z) (b * z)) : Mo n a b := by
  obtain ⟨t, ht⟩ := hz
  have h1 := h.mul (Mo.rfl' (a := t))
  have e : ∀ x : Int, Mo n (x * z * t) x := fun x => by
    have := (Mo.rfl' (a := x)).mul ht
    rw [Int.mul_one, ← Int.mul_assoc] at this
    exact this
  exact (e a).symm.trans (h1.trans (e b))
/-- Bezout -/
theorem bez : ∀ (m k : Nat), ∃ x y : Int, (m : Int) * x + (k : Int) * y = ((Nat.gcd m k : Nat) : Int) := by
  intro m
  induction m using Nat.strongRecOn with
  | ind m ih =>
    intro k
    rcases Nat.eq_zero_or_pos m with h | h
    · subst h
      exact ⟨0, 1, by simp⟩
    · obtain ⟨x, y, e⟩ := ih (k % m) (Nat.mod_lt _ h) m
      rw [Nat.gcd_rec m k]
      refine ⟨y - (k / m : Nat) * x, x, ?_⟩
      rw [← e]
      have : (k : Int) = (m : Int) * ((k / m : Nat) : Int) + ((k % m : Nat) : Int) := by exact_mod_cast (Nat.div_add_mod k m).symm
      generalize ((k / m : Nat) : Int) = q at *
      generalize ((k % m : Nat) : Int) = r at *
      rw [this]
      grind
theorem un_iff (hn : 0 < n) {z : Int} : Un n z ↔ Int.gcd z n = 1 := by
  constructor
  · rintro ⟨t, ht⟩
    have h := Mo.iff_dvd.mp ht
    have g1 : (Int.gcd z n : Int) ∣ z := Int.gcd_dvd_left ..
    have g2 : (Int.gcd z n : Int) ∣ n := Int.gcd_dvd_right ..
    have g3 : (Int.gcd z n : Int) ∣ z * t - 1 := Int.dvd_trans g2 h
    have g4 : (Int.gcd z n : Int) ∣ 1 := by
      have := Int.dvd_sub (Int.dvd_mul_of_dvd_left (b := z) (c := t) g1) g3
      rw [show z * t - (z * t - 1) = 1 by omega] at this
      exact this
    exact Nat.dvd_one.mp (Int.natCast_dvd_natCast.mp g4)
  · intro h
    obtain ⟨x, y, e⟩ := bez z.natAbs n.natAbs
    have h' : Nat.gcd z.natAbs n.natAbs = 1 := h
    rw [h'] at e
    have en : (n.natAbs : Int) = n := by omega
    rw [en] at e
    rcases Int.natAbs_eq z with q | q
    · refine ⟨x, Mo.iff_dvd.mpr ⟨-y, ?_⟩⟩
      rw [q]
      have : n * -y = -(n * y) := Int.mul_neg ..
      omega
    · refine ⟨-x, Mo.iff_dvd.mpr ⟨-y, ?_⟩⟩
      rw [q]
      have : n * -y = -(n * y) := Int.mul_neg ..
      have : -(z.natAbs : Int) * -x = (z.natAbs : Int) * x := Int.neg_mul_neg ..
      omega
theorem gcd_congr (h : Mo n a b) : Int.gcd a n = Int.gcd b n := by
  obtain ⟨q, hq⟩ := Mo.iff_dvd.mp h
  have : a = b + n * q := by omega
  rw [this, Int.gcd_add_mul_left_left]
theorem gcd_unit (hn : 0 < n) {z : Int} (hz : Un n z) (a : Int) : Int.gcd (a * z) n = Int.gcd a n := by
  have := (un_iff hn).mp hz
  show Nat.gcd (a * z).natAbs n.natAbs = Nat.gcd a.natAbs n.natAbs
  rw [Int.natAbs_mul]
  exact Nat.Coprime.gcd_mul_right_cancel _ this
theorem zero_unit {z : Int} (hz : Un n z) : Mo n (a * z) 0 ↔ Mo n a 0 := by
  constructor
  · intro h
    exact hz.cancel (h.trans (Mo.of_eq (Int.zero_mul z).symm))
  · intro h
    exact (h.mul Mo.rfl').trans (Mo.of_eq (Int.zero_mul z))
end
/-! ### Euclid's divisions with one row of factors -/
/-- above * a is high modulo n, below * a is low; the factors stay small -/
structure Eu (n a : Int) (high low above below : Int) : Prop where
  h0 : 0 < high
  l0 : 0 ≤ low
  ha : Mo n (above * a) high
  la : Mo n (below * a) low
  g : Nat.gcd high.natAbs low.natAbs = Nat.gcd a.natAbs n.natAbs
  sz : high * (below.natAbs : Int) + low * (above.natAbs : Int) = n
  sg : above * below ≤ 0
  lt : low < high
  hn : high ≤ n
theorem Eu.start {n a : Int} (hn : 0 < n) : Eu n a n (a % n) 0 1 := by
  refine ⟨hn, Int.emod_nonneg _ (by omega), ?_, ?_, ?_, by simp, by decide, Int.emod_lt_of_pos _ hn, Int.le_refl _⟩
  · rw [Int.zero_mul]
    exact (Mo.zero.mpr (Int.dvd_refl n)).symm
  · rw [Int.one_mul]
    exact Mo.mod.symm
  · have := gcd_congr (n := n) (a := a % n) (b := a) Mo.mod
    rw [Nat.gcd_comm]
    exact this
theorem natAbs_step {u v q : Int} (h : u * v ≤ 0) (hq : 0 ≤ q) : ((u - q * v).natAbs : Int) = (u.natAbs : Int) + q * (v.natAbs : Int) := by
  have hqv : q * (v.natAbs : Int) = ((q * v).natAbs : Int) := by
    rw [Int.natAbs_mul, Int.natCast_mul]
    congr 1
    omega
  rw [hqv]
  rcases Int.lt_trichotomy v 0 with hv | hv | hv
  · have u0 : 0 ≤ u := Int.not_lt.mp fun z => by
      have := Int.mul_pos_of_neg_of_neg z hv
      omega
    have : q * v ≤ 0 := Int.mul_nonpos_of_nonneg_of_nonpos hq (by omega)
    omega
  · subst hv
    rw [Int.mul_zero]
    omega
  · have u0 : u ≤ 0 := Int.not_lt.mp fun z => by
      have := Int.mul_pos z hv
      omega
    have : 0 ≤ q * v := Int.mul_nonneg hq (by omega)
    omega
theorem Eu.step {n a high low above below : Int} (h : Eu n a high low above below) (hl : low ≠ 0) : Eu n a low (high % low) below (above - high / low * below) ∧ high % low < low := by
  obtain ⟨h0, l0, ha, la, g, sz, sg, lt, hn⟩ := h
  have lp : 0 < low := by omega
  have q0 : 0 ≤ high / low := Int.ediv_nonneg (by omega) l0
  have em : high % low = high - high / low * low := by
    have := Int.emod_def high low
    rw [this, Int.mul_comm]
  refine ⟨⟨lp, Int.emod_nonneg _ hl, la, ?_, ?_, ?_, ?_, Int.emod_lt_of_pos _ lp, by omega⟩, Int.emod_lt_of_pos _ lp⟩
  · rw [em]
    have e : (above - high / low * below) * a = above * a - high / low * (below * a) := by grind
    rw [e]
    exact ha.sub (Mo.rfl'.mul la)
  · rw [← g]
    have : (high % low).natAbs = high.natAbs % low.natAbs := by
      obtain ⟨x, rfl⟩ : ∃ x : Nat, high = x := ⟨high.toNat, by omega⟩
      obtain ⟨y, rfl⟩ : ∃ y : Nat, low = y := ⟨low.toNat, by omega⟩
      rw [← Int.natCast_emod]
      rfl
    rw [this, Nat.gcd_comm low.natAbs, ← Nat.gcd_rec, Nat.gcd_comm]
  · rw [natAbs_step sg q0, em, ← sz]
    generalize (below.natAbs : Int) = u
    generalize (above.natAbs : Int) = v
    grind
  · have e : below * (above - high / low * below) = above * below - high / low * (below * below) := by grind
    rw [e]
    have b2 : 0 ≤ below * below := by
      rcases Int.le_total 0 below with q | q
      · exact Int.mul_nonneg q q
      · exact Int.mul_nonneg_of_nonpos_of_nonpos q q
    have := Int.mul_nonneg q0 b2
    omega
theorem Eu.small {n a high low above below : Int} (h : Eu n a high low above below) (hl : low ≠ 0) : (above.natAbs : Int) ≤ n ∧ (below.natAbs : Int) ≤ n := by
  obtain ⟨h0, l0, ha, la, g, sz, sg, lt, hn⟩ := h
  have h1 : 1 * (below.natAbs : Int) ≤ high * (below.natAbs : Int) := Int.mul_le_mul_of_nonneg_right (by omega) (by omega)
  have h2 : 1 * (above.natAbs : Int) ≤ low * (above.natAbs : Int) := Int.mul_le_mul_of_nonneg_right (by omega) (by omega)
  omega
/-- r is the inverse of a modulo n -/
def Inv (n a r : Int) : Prop := Dg n r ∧ Mo n (a * r) 1
theorem Inv.uniq {n a r s : Int} (h : Inv n a r) (k : Inv n a s) : r = s := by
  refine h.1.eq k.1 ?_
  have hu : Un n a := ⟨r, h.2⟩
  refine hu.cancel ?_
  rw [Int.mul_comm r, Int.mul_comm s]
  exact h.2.trans k.2.symm
theorem Inv.un {n a r : Int} (h : Inv n a r) : Un n r := ⟨a, by rw [Int.mul_comm]; exact h.2⟩
theorem Eu.inv {n a high above below : Int} (h : Eu n a high 0 above below) (hn : 0 < n) (hg : Nat.gcd a.natAbs n.natAbs = 1) : Inv n a (above % n) := by
  have g := h.g
  have h0 := h.h0
  rw [hg] at g
  have h1 : high = 1 := by
    simp at g
    omega
  refine ⟨Dg.mod hn, ?_⟩
  have := h.ha
  rw [h1, Int.mul_comm] at this
  exact (Mo.rfl'.mul Mo.mod).trans this
theorem Eu.inv1 {n a high above below : Int} (h : Eu n a high 1 above below) (hn : 0 < n) : Inv n a (below % n) := by
  refine ⟨Dg.mod hn, ?_⟩
  have := h.la
  rw [Int.mul_comm] at this
  exact (Mo.rfl'.mul Mo.mod).trans this
theorem Eu.rest {n a high low above below : Int} (h : Eu n a high low above below) (hg : Nat.gcd a.natAbs n.natAbs = 1) (hl : 1 < low) : high % low ≠ 0 := by
  intro z
  have g := h.g
  rw [hg] at g
  have : low.natAbs ∣ high.natAbs := Int.natAbs_dvd_natAbs.mpr (Int.dvd_of_emod_eq_zero z)
  rw [Nat.gcd_eq_right this] at g
  omega
/-! ### points modulo n -/
abbrev Pt := Option (Int × Int)
inductive R
  | ok (P : Pt)
  | br (d : Option Int)
open Classical in
noncomputable def iv (n z : Int) : Int := if h : ∃ r, Inv n z r then h.choose else 0
theorem iv_eq {n z r : Int} (h : Inv n z r) : iv n z = r := by
  have e : ∃ r, Inv n z r := ⟨r, h⟩
  unfold iv
  rw [dif_pos e]
  exact e.choose_spec.uniq h
noncomputable def dv (n x y z upper lower : Int) : R :=
  if Int.gcd lower n = 1 then
    .ok (some ((upper * iv n lower * (upper * iv n lower) - x - z) % n, (upper * iv n lower * (x - (upper * iv n lower * (upper * iv n lower) - x - z) % n) - y) % n))
  else .br (some (Int.gcd lower n))
/-- the sum of two points, as the law reckons -/
noncomputable def sumR (n a : Int) : Pt → Pt → R
  | none, Q => .ok Q
  | some P, none => .ok (some P)
  | some (x, y), some (z, w) => if x = z then (if (y + w) % n = 0 then .ok none else if y ≠ w then .br none else dv n x y z (3 * x * x + a) (2 * y)) else dv n x y z (w - y) (z - x)
/-- three letters for a point -/
structure Rep (n X Y x y z : Int) : Prop where
  dX : Dg n X
  dY : Dg n Y
  dx : Dg n x
  dy : Dg n y
  dz : Dg n z
  u : Un n z
  ex : Mo n x (X * (z * z))
  ey : Mo n y (Y * (z * z * z))
section
variable {n a X Y x y z : Int}
theorem dv_k {x y z upper lower k : Int} (hn : 0 < n) (hu : Un n lower) (hk : Mo n (k * lower) upper) : dv n x y z upper lower = .ok (some ((k * k - x - z) % n, (k * (x - (k * k - x - z) % n) - y) % n)) := by
  have hg : Int.gcd lower n = 1 := (un_iff hn).mp hu
  obtain ⟨t, ht⟩ := hu
  have hi : Inv n lower (t % n) := ⟨Dg.mod hn, (Mo.rfl'.mul Mo.mod).trans ht⟩
  have e : iv n lower = t % n := iv_eq hi
  unfold dv
  rw [if_pos hg, e]
  have hm : Mo n (upper * (t % n)) k := by
    refine (hk.symm.mul Mo.rfl').trans ?_
    have := (Mo.rfl' (n := n) (a := k)).mul hi.2
    rw [Int.mul_one, ← Int.mul_assoc] at this
    exact this
  have e1 : (upper * (t % n) * (upper * (t % n)) - x - z) % n = (k * k - x - z) % n := ((hm.mul hm).sub Mo.rfl').sub Mo.rfl'
  rw [e1]
  have e2 : (upper * (t % n) * (x - (k * k - x - z) % n) - y) % n = (k * (x - (k * k - x - z) % n) - y) % n := (hm.mul Mo.rfl').sub Mo.rfl'
  rw [e2]
theorem two_zero (h2 : Un n 2) {y : Int} : (y + y) % n = 0 ↔ Mo n y 0 := by
  have e : y + y = y * 2 := by omega
  rw [e]
  have := zero_unit (a := y) h2
  unfold Mo at this ⊢
  rw [Int.zero_emod] at this ⊢
  exact this
theorem Rep.y0 (h : Rep n X Y x y z) : y = 0 ↔ Mo n Y 0 := by
  have uz := (h.u.mul h.u).mul h.u
  constructor
  · intro e
    have := h.ey
    rw [e] at this
    exact (zero_unit uz).mp this.symm
  · intro e
    have := h.ey.trans ((zero_unit uz).mpr e)
    exact h.dy.eq ⟨Int.le_refl 0, by have := h.dy; unfold Dg at this; omega⟩ this
theorem sumR_ss (n a x y z w : Int) : sumR n a (some (x, y)) (some (z, w)) = if x = z then (if (y + w) % n = 0 then .ok none else if y ≠ w then .br none else dv n x y z (3 * x * x + a) (2 * y)) else dv n x y z (w - y) (z - x) := rfl
theorem dbl_zero (h : Rep n X Y x y z) (h2 : Un n 2) (hy : y = 0) : sumR n a (some (X, Y)) (some (X, Y)) = .ok none := by
  rw [sumR_ss, if_pos rfl, if_pos ((two_zero h2).mpr (h.y0.mp hy))]
theorem gcd_2Y (h : Rep n X Y x y z) (hn : 0 < n) (h2 : Un n 2) : Int.gcd (2 * Y) n = Int.gcd y n := by
  rw [Int.mul_comm, gcd_unit hn h2, gcd_congr h.ey, gcd_unit hn ((h.u.mul h.u).mul h.u)]
theorem dbl_br (h : Rep n X Y x y z) (hn : 0 < n) (h2 : Un n 2) (hy : y ≠ 0) (hg : Int.gcd y n ≠ 1) : sumR n a (some (X, Y)) (some (X, Y)) = .br (some (Int.gcd y n)) := by
  rw [sumR_ss, if_pos rfl, if_neg (fun e => hy (h.y0.mpr ((two_zero h2).mp e))), if_neg (by simp)]
  unfold dv
  rw [gcd_2Y h hn h2, if_neg hg]
theorem dbl_ok (h : Rep n X Y x y z) (hn : 0 < n) (h2 : Un n 2) (hy : y ≠ 0) (hg : Int.gcd y n = 1) {yy zz s m x3 y3 z3 : Int}
    (e1 : yy = y * y % n) (e2 : zz = z * z % n) (e3 : s = 4 * x * yy % n) (e4 : m = (3 * x * x + a * zz * zz) % n) (e5 : x3 = (m * m - 2 * s) % n) (e6 : y3 = (m * (s - x3) - 8 * yy * yy) % n) (e7 : z3 = 2 * y * z % n) :
    ∃ X3 Y3, sumR n a (some (X, Y)) (some (X, Y)) = .ok (some (X3, Y3)) ∧ Rep n X3 Y3 x3 y3 z3 := by
  have u2Y : Un n (2 * Y) := (un_iff hn).mpr ((gcd_2Y h hn h2).trans hg)
  have uY := (Un.of_mul u2Y).2
  obtain ⟨t, ht⟩ := u2Y
  obtain ⟨k, hk⟩ : ∃ k, k = (3 * X * X + a) * t := ⟨_, rfl⟩
  have hkm : Mo n (k * (2 * Y)) (3 * X * X + a) := by
    rw [hk]
    have := (Mo.rfl' (n := n) (a := 3 * X * X + a)).mul ht
    rw [Int.mul_one] at this
    exact (Mo.of_eq (by ac_rfl)).trans this
  have hs : sumR n a (some (X, Y)) (some (X, Y)) = .ok (some ((k * k - X - X) % n, (k * (X - (k * k - X - X) % n) - Y) % n)) := by
    rw [sumR_ss, if_pos rfl, if_neg (fun e => hy (h.y0.mpr ((two_zero h2).mp e))), if_neg (by simp), dv_k hn ⟨t, ht⟩ hkm]
  refine ⟨_, _, hs, ?_⟩
  have hx := h.ex
  have hyy := h.ey
  have m1 : Mo n yy (Y * (z * z * z) * (Y * (z * z * z))) := by
    rw [e1]
    exact Mo.mod.trans (hyy.mul hyy)
  have m2 : Mo n zz (z * z) := by
    rw [e2]
    exact Mo.mod
  have m3 : Mo n s (4 * (X * (z * z)) * (Y * (z * z * z) * (Y * (z * z * z)))) := by
    rw [e3]
    exact Mo.mod.trans (((Mo.rfl').mul hx).mul m1)
  have m4 : Mo n m (k * (2 * Y) * (z * z * (z * z))) := by
    rw [e4]
    refine Mo.mod.trans ?_
    refine (((Mo.rfl'.mul hx).mul hx).add ((Mo.rfl'.mul m2).mul m2)).trans ?_
    refine Mo.trans (Mo.of_eq ?_) (hkm.symm.mul Mo.rfl')
    grind
  have m7 : Mo n z3 (2 * (Y * (z * z * z)) * z) := by
    rw [e7]
    exact Mo.mod.trans ((Mo.rfl'.mul hyy).mul Mo.rfl')
  have m5 : Mo n x3 ((k * k - X - X) * (2 * (Y * (z * z * z)) * z * (2 * (Y * (z * z * z)) * z))) := by
    rw [e5]
    refine Mo.mod.trans (((m4.mul m4).sub (Mo.rfl'.mul m3)).trans (Mo.of_eq ?_))
    grind
  have m6 : Mo n y3 ((k * (X - (k * k - X - X)) - Y) * (2 * (Y * (z * z * z)) * z * (2 * (Y * (z * z * z)) * z) * (2 * (Y * (z * z * z)) * z))) := by
    rw [e6]
    refine Mo.mod.trans (((m4.mul (m3.sub m5)).sub ((Mo.rfl'.mul m1).mul m1)).trans (Mo.of_eq ?_))
    grind
  have uz3 : Un n (2 * (Y * (z * z * z)) * z) := (h2.mul (uY.mul ((h.u.mul h.u).mul h.u))).mul h.u
  refine ⟨Dg.mod hn, Dg.mod hn, by rw [e5]; exact Dg.mod hn, by rw [e6]; exact Dg.mod hn, by rw [e7]; exact Dg.mod hn, uz3.congr m7.symm, ?_, ?_⟩
  · exact m5.trans (Mo.mod.symm.mul (m7.symm.mul m7.symm))
  · refine m6.trans (Mo.mul ?_ ((m7.symm.mul m7.symm).mul m7.symm))
    exact (Mo.sub (Mo.rfl'.mul (Mo.rfl'.sub Mo.mod.symm)) Mo.rfl').trans Mo.mod.symm
/-- what is reckoned of a point and a further one -/
structure Jn (n X Y x y z p q zz lifted across up : Int) : Prop where
  ezz : zz = z * z % n
  el : lifted = q * zz * z
  ea : across = (p * zz - x) % n
  eu : up = (lifted - y) % n
section
variable {p q zz lifted across up : Int}
theorem Jn.acr (j : Jn n X Y x y z p q zz lifted across up) (h : Rep n X Y x y z) : Mo n across ((p - X) * (z * z)) := by
  rw [j.ea, j.ezz]
  exact Mo.mod.trans (((Mo.rfl'.mul Mo.mod).sub h.ex).trans (Mo.of_eq (by grind)))
theorem Jn.lif (j : Jn n X Y x y z p q zz lifted across up) : Mo n lifted (q * (z * z * z)) := by
  rw [j.el, j.ezz]
  exact ((Mo.rfl'.mul Mo.mod).mul Mo.rfl').trans (Mo.of_eq (by grind))
theorem Jn.upp (j : Jn n X Y x y z p q zz lifted across up) (h : Rep n X Y x y z) : Mo n up ((q - Y) * (z * z * z)) := by
  rw [j.eu]
  exact Mo.mod.trans ((j.lif.sub h.ey).trans (Mo.of_eq (by grind)))
theorem dg0 (hn : 0 < n) : Dg n 0 := ⟨Int.le_refl _, hn⟩
theorem sub_zero_iff {a b : Int} (ha : Dg n a) (hb : Dg n b) : Mo n (a - b) 0 ↔ a = b := by
  constructor
  · intro h
    refine ha.eq hb ?_
    have := h.add (Mo.rfl' (a := b))
    rw [Int.sub_add_cancel, Int.zero_add] at this
    exact this
  · rintro rfl
    exact Mo.of_eq (Int.sub_self _)
theorem Jn.across0 (j : Jn n X Y x y z p q zz lifted across up) (h : Rep n X Y x y z) (hn : 0 < n) (hp : Dg n p) : across = 0 ↔ X = p := by
  have uz := h.u.mul h.u
  have da : Dg n across := by rw [j.ea]; exact Dg.mod hn
  constructor
  · intro e
    have := j.acr h
    rw [e] at this
    exact ((sub_zero_iff hp h.dX).mp ((zero_unit uz).mp this.symm)).symm
  · intro e
    exact da.eq (dg0 hn) ((j.acr h).trans ((zero_unit uz).mpr ((sub_zero_iff hp h.dX).mpr e.symm)))
theorem Jn.up0 (j : Jn n X Y x y z p q zz lifted across up) (h : Rep n X Y x y z) (hn : 0 < n) (hq : Dg n q) : up = 0 ↔ Y = q := by
  have uz := (h.u.mul h.u).mul h.u
  have da : Dg n up := by rw [j.eu]; exact Dg.mod hn
  constructor
  · intro e
    have := j.upp h
    rw [e] at this
    exact ((sub_zero_iff hq h.dY).mp ((zero_unit uz).mp this.symm)).symm
  · intro e
    exact da.eq (dg0 hn) ((j.upp h).trans ((zero_unit uz).mpr ((sub_zero_iff hq h.dY).mpr e.symm)))
theorem mod0 {a : Int} : a % n = 0 ↔ Mo n a 0 := by
  unfold Mo
  rw [Int.zero_emod]
theorem Jn.opp (j : Jn n X Y x y z p q zz lifted across up) (h : Rep n X Y x y z) : (lifted + y) % n = 0 ↔ (Y + q) % n = 0 := by
  have uz := (h.u.mul h.u).mul h.u
  rw [mod0, mod0, ← zero_unit (a := Y + q) uz]
  have e : Mo n (lifted + y) ((Y + q) * (z * z * z)) := (j.lif.add h.ey).trans (Mo.of_eq (by grind))
  exact ⟨fun w => e.symm.trans w, fun w => e.trans w⟩
theorem Jn.gcd (j : Jn n X Y x y z p q zz lifted across up) (h : Rep n X Y x y z) (hn : 0 < n) : Int.gcd (p - X) n = Int.gcd across n := by
  rw [gcd_congr (j.acr h), gcd_unit hn (h.u.mul h.u)]
theorem join_br (j : Jn n X Y x y z p q zz lifted across up) (h : Rep n X Y x y z) (hn : 0 < n) (hp : Dg n p) (h0 : across ≠ 0) (hg : Int.gcd across n ≠ 1) : sumR n a (some (X, Y)) (some (p, q)) = .br (some (Int.gcd across n)) := by
  rw [sumR_ss, if_neg (fun e => h0 ((j.across0 h hn hp).mpr e))]
  unfold dv
  rw [j.gcd h hn, if_neg hg]
theorem join_ok (j : Jn n X Y x y z p q zz lifted across up) (h : Rep n X Y x y z) (hn : 0 < n) (hp : Dg n p) (h0 : across ≠ 0) (hg : Int.gcd across n = 1) {square cube bs x3 y3 z3 : Int}
    (e1 : square = across * across % n) (e2 : cube = square * across % n) (e3 : bs = x * square % n) (e4 : x3 = (up * up - cube - 2 * bs) % n) (e5 : y3 = (up * (bs - x3) - y * cube) % n) (e6 : z3 = z * across % n) :
    ∃ X3 Y3, sumR n a (some (X, Y)) (some (p, q)) = .ok (some (X3, Y3)) ∧ Rep n X3 Y3 x3 y3 z3 := by
  have ud : Un n (p - X) := (un_iff hn).mpr ((j.gcd h hn).trans hg)
  have ud2 := ud
  obtain ⟨t, ht⟩ := ud
  obtain ⟨k, hk⟩ : ∃ k, k = (q - Y) * t := ⟨_, rfl⟩
  have hkm : Mo n (k * (p - X)) (q - Y) := by
    rw [hk]
    have := (Mo.rfl' (n := n) (a := q - Y)).mul ht
    rw [Int.mul_one] at this
    exact (Mo.of_eq (by ac_rfl)).trans this
  have hs : sumR n a (some (X, Y)) (some (p, q)) = .ok (some ((k * k - X - p) % n, (k * (X - (k * k - X - p) % n) - Y) % n)) := by
    rw [sumR_ss, if_neg (fun e => h0 ((j.across0 h hn hp).mpr e)), dv_k hn ⟨t, ht⟩ hkm]
  refine ⟨_, _, hs, ?_⟩
  have ma := j.acr h
  have mu : Mo n up (k * (p - X) * (z * z * z)) := (j.upp h).trans (hkm.symm.mul Mo.rfl')
  have m1 : Mo n square ((p - X) * (z * z) * ((p - X) * (z * z))) := by
    rw [e1]
    exact Mo.mod.trans (ma.mul ma)
  have m2 : Mo n cube ((p - X) * (z * z) * ((p - X) * (z * z)) * ((p - X) * (z * z))) := by
    rw [e2]
    exact Mo.mod.trans (m1.mul ma)
  have m3 : Mo n bs (X * (z * z) * ((p - X) * (z * z) * ((p - X) * (z * z)))) := by
    rw [e3]
    exact Mo.mod.trans (h.ex.mul m1)
  have m6 : Mo n z3 (z * ((p - X) * (z * z))) := by
    rw [e6]
    exact Mo.mod.trans (Mo.rfl'.mul ma)
  have m4 : Mo n x3 ((k * k - X - p) * (z * ((p - X) * (z * z)) * (z * ((p - X) * (z * z))))) := by
    rw [e4]
    refine Mo.mod.trans ((((mu.mul mu).sub m2).sub (Mo.rfl'.mul m3)).trans (Mo.of_eq ?_))
    grind
  have m5 : Mo n y3 ((k * (X - (k * k - X - p)) - Y) * (z * ((p - X) * (z * z)) * (z * ((p - X) * (z * z))) * (z * ((p - X) * (z * z))))) := by
    rw [e5]
    refine Mo.mod.trans (((mu.mul (m3.sub m4)).sub (h.ey.mul m2)).trans (Mo.of_eq ?_))
    grind
  have uz3 : Un n (z * ((p - X) * (z * z))) := h.u.mul (ud2.mul (h.u.mul h.u))
  refine ⟨Dg.mod hn, Dg.mod hn, by rw [e4]; exact Dg.mod hn, by rw [e5]; exact Dg.mod hn, by rw [e6]; exact Dg.mod hn, uz3.congr m6.symm, ?_, ?_⟩
  · exact m4.trans (Mo.mod.symm.mul (m6.symm.mul m6.symm))
  · refine m5.trans (Mo.mul ?_ ((m6.symm.mul m6.symm).mul m6.symm))
    exact (Mo.sub (Mo.rfl'.mul (Mo.rfl'.sub Mo.mod.symm)) Mo.rfl').trans Mo.mod.symm
end
/-- from three letters to two -/
theorem settle (h : Rep n X Y x y z) (hn : 0 < n) {t : Int} (ht : Inv n z t) : x * (t * t % n) % n = X ∧ y * (t * t % n) * t % n = Y := by
  have e1 : Mo n (z * t) 1 := ht.2
  constructor
  · refine (Dg.mod hn).eq h.dX (Mo.mod.trans ((h.ex.mul Mo.mod).trans ?_))
    have := (Mo.rfl' (a := X)).mul (e1.mul e1)
    rw [Int.mul_one, Int.mul_one] at this
    exact (Mo.of_eq (by grind)).trans this
  · refine (Dg.mod hn).eq h.dY (Mo.mod.trans (((h.ey.mul Mo.mod).mul Mo.rfl').trans ?_))
    have := (Mo.rfl' (a := Y)).mul ((e1.mul e1).mul e1)
    rw [Int.mul_one, Int.mul_one, Int.mul_one] at this
    exact (Mo.of_eq (by grind)).trans this
/-! ### walks -/
/-- one figure -/
noncomputable def st (n a : Int) (p : Int × Int) (b : Bool) (P : Pt) : R :=
  match sumR n a P P with
  | .br d => .br d
  | .ok P1 => if b = true then sumR n a P1 (some p) else .ok P1
noncomputable def wk (n a : Int) (p : Int × Int) (k : Nat) : Nat → Pt → R
  | 0, P => .ok P
  | j + 1, P => match st n a p (k / 2 ^ j % 2 == 1) P with
    | .br d => .br d
    | .ok P' => wk n a p k j P'
/-- sizes -/
def PtOk (n : Int) : Pt → Prop
  | none => True
  | some P => Dg n P.1 ∧ Dg n P.2
def ROk (n : Int) : R → Prop
  | .ok P => PtOk n P
  | .br none => True
  | .br (some d) => 0 ≤ d ∧ d ≤ n
theorem dv_ok (hn : 0 < n) {x y z u l : Int} : ROk n (dv n x y z u l) := by
  unfold dv
  split
  · exact ⟨Dg.mod hn, Dg.mod hn⟩
  · refine ⟨by omega, ?_⟩
    have := Int.gcd_le_right l hn
    exact this
theorem sum_ok (hn : 0 < n) {P S : Pt} (hP : PtOk n P) (hS : PtOk n S) : ROk n (sumR n a P S) := by
  match P, S, hP, hS with
  | none, Q, _, hS => exact hS
  | some P, none, hP, _ => exact hP
  | some (x, y), some (z, w), hP, hS =>
    rw [sumR_ss]
    split
    · split
      · trivial
      · split
        · trivial
        · exact dv_ok hn
    · exact dv_ok hn
end
end K45M
set_option Elab.async false
set_option linter.all false
set_option maxRecDepth 100000
set_option maxHeartbeats 4000000
namespace K45
open PySem PySem.Spec PyProof.Rows L2 Gd QM K45M
def topS (i : Nat) : Stmt := PySem.Challenge.pw_pointsum_k45_walks_modulo_numbers.main.body.getD i (.Pass ⟨0, 0, 0, 0⟩)
/-- what the walk asks of the module's names -/
structure Tx (K : PySem.W.Frag) (mg : Str → Option Value) : Prop where
  gcd : mg "gcd" = some (.builtin "math.gcd")
  int : mg "int" = none
  len : mg "len" = none
  abs : mg "abs" = none
  range : mg "range" = none
  divmod : mg "divmod" = none
  min : mg "min" = none
  repr : mg "repr" = none
theorem iteN {c A B : Prop} [Decidable c] (h : ¬ c) (b : B) : if c then A else B := by
  rw [if_neg h]
  exact b
theorem iteY {c A B : Prop} [Decidable c] (h : c) (b : A) : if c then A else B := by
  rw [if_pos h]
  exact b
theorem divp {i j : Int} {b : Nat} (h : 0 < j) (hi : B b i) (hb : b ≤ 3000) : CDivP i j := by
  refine divp_ok h ?_
  have := PyProof.Rows.intBits_le hi
  omega
theorem B.of_le {x n : Int} {b : Nat} (hn : B b n) (h : (x.natAbs : Int) ≤ n) : B b x := by
  unfold Gd.B at *
  omega
section
variable {P : Program} {w : World} {K : PySem.W.Frag} {mg : Str → Option Value} {base : Heap}
/-! ### inverses -/
def sp_inverse_mod (K : PySem.W.Frag) : Sp := fun vs H Q _ => ∃ a m : Int, vs = [.int a, .int m] ∧ 1 < m ∧ B 400 m ∧ Nat.gcd a.natAbs m.natAbs = 1 ∧ ∀ H' r, Same H H' → Inv m a r → Q (.int r) H'
abbrev s_inverse_mod : Stmt := topS 2
theorem sc_inverse_mod : FnScope ["a", "m", "high", "low", "above", "below", "many", "rest"] ["a", "m"] (defScope s_inverse_mod) := ⟨rfl, rfl, rfl, by decide +kernel, rfl, by decide +kernel, by decide +kernel⟩
theorem k_inverse_mod (T : Tx K mg) (D : Df K mg "inverse_mod" s_inverse_mod ["a", "m"])  : Kl P w K mg base 1 "inverse_mod" (sp_inverse_mod K) := by
  have nd := sc_inverse_mod.nd
  refine Kl.by_body D sc_inverse_mod (fun vs H Q E h => ?_) (fun f cdv A outer s H vs Q E hr h => ?_)
  · obtain ⟨_, _, rfl, _⟩ := h
    rfl
  · obtain ⟨a, m, rfl, hm, hB, hg, q⟩ := h
    have hu1 := hu_of hr
    refine ⟨_, (pss_cons (ps_par (i := 2) (j := 3) (by rfl) nd rfl rfl (by decide) rfl rfl (pa_cons (pv 1) (pa_cons (pe_op op_mod (pv 0) (pv 1)) pa_nil)) (by rfl))
      (pss_cons (ps_asg (pe_tup (pa_cons pe_int (pa_cons pe_int pa_nil))) (pg_tup rfl (pgs_cons (pg_name (i := 4) nd rfl (by first | exact Or.inl rfl | exact Or.inr rfl)) (pgs_cons (pg_name (i := 5) nd rfl (by first | exact Or.inl rfl | exact Or.inr rfl)) pgs_nil))))
      (pss_cons (ps_while PassesOwn.never (pt_cmpR op_ne (pv 3) pe_int (nomark _)) (pss_cons (ps_asg (pe_callB call_divmodW (by rfl) T.divmod (by decide +kernel) (pa_cons (pv 2) (pa_cons (pv 3) pa_nil))) (pg_tup rfl (pgs_cons (pg_name (i := 6) nd rfl (by first | exact Or.inl rfl | exact Or.inr rfl)) (pgs_cons (pg_name (i := 7) nd rfl (by first | exact Or.inl rfl | exact Or.inr rfl)) pgs_nil))))
      (pss_cons (ps_par (i := 2) (j := 3) (by rfl) nd rfl rfl (by decide) rfl rfl (pa_cons (pv 3) (pa_cons (pv 7) pa_nil)) (by rfl))
      (pss_one (ps_par (i := 4) (j := 5) (by rfl) nd rfl rfl (by decide) rfl rfl (pa_cons (pv 5) (pa_cons (pe_op op_sub (pv 4) (pe_op op_mulW (pv 6) (pv 5))) pa_nil)) (by rfl))))))
      (pss_one (ps_ret (pe_op op_mod (pv 4) (pv 1))))))), ?_⟩
    refine ⟨_, rfl, _, rfl, _, rfl, _, _, rfl, rfl, (by show (0 : Int) < m; omega), _, _, rfl, ?_⟩
    refine ⟨(by show 2 ≤ sizeLine; decide), fun t0 nt0 => ?_⟩
    have s1 := Same.new (H := H) (p := t0) (o := .tup [.int 0, .int 1]) nt0
    have g1 : upd H t0 (.tup [.int 0, .int 1]) t0 = some (.tup [.int 0, .int 1]) := upd_same
    generalize upd H t0 (.tup [.int 0, .int 1]) = H1 at s1 g1 ⊢
    refine ⟨t0, _, rfl, tup_of g1, rfl, _, _, rfl, _, _, rfl, rfl, ?_⟩
    first | refine sigN [some (.int (a)), some (.int (m)), some (.int (m)), some (.int (a % m)), some (.int (0)), some (.int (1)), none, none] (by rfl) ?_ | refine sig [some (.int (a)), some (.int (m)), some (.int (m)), some (.int (a % m)), some (.int (0)), some (.int (1)), none, none] (by rfl) ?_
    refine while_by (fun σ H2 => Same H1 H2 ∧ ∃ (high low above below : Int) (v1 v2 : Option V), σ = [some (.int a), some (.int m), some (.int high), some (.int low), some (.int above), some (.int below), v1, v2] ∧ Eu m a high low above below)
      (fun σ _ => match σ with | [_, _, _, some (.int low), _, _, _, _] => low.toNat | _ => 0) ⟨Same.refl _, m, a % m, 0, 1, none, none, rfl, Eu.start (by omega)⟩ ?_ ?_
    · rintro σ H2 ⟨s2, high, low, above, below, v1, v2, rfl, eu⟩
      refine ⟨_, rfl, rfl, _, rfl, ?_⟩
      rw [dec_int]
      by_cases hl : low = 0
      · refine iteN (by simp [hl]) ?_
        subst hl
        exact ⟨_, rfl, _, rfl, _, _, rfl, rfl, (by show (0 : Int) < m; omega), q _ _ (s1.trans s2) (eu.inv (by omega) hg)⟩
      · refine iteY (by simpa using hl) ?_
        have lp : 0 < low := by
          have := eu.l0
          omega
        have hB2 : B 400 high := B.of_le hB (by have := eu.hn; have := eu.h0; omega)
        obtain ⟨z1, z2⟩ := eu.small hl
        refine ⟨_, rfl, _, rfl, _, _, rfl, divp lp hB2 (by decide), fun t nt => ?_⟩
        have s3 := Same.new (H := H2) (p := t) (o := .tup [.int (high / low), .int (high % low)]) nt
        have g3 : upd H2 t (.tup [.int (high / low), .int (high % low)]) t = some (.tup [.int (high / low), .int (high % low)]) := upd_same
        generalize upd H2 t (.tup [.int (high / low), .int (high % low)]) = H3 at s3 g3 ⊢
        refine ⟨t, _, rfl, tup_of g3, rfl, _, _, rfl, _, _, rfl, rfl, ?_⟩
        first | refine sigN [some (.int (a)), some (.int (m)), some (.int (high)), some (.int (low)), some (.int (above)), some (.int (below)), some (.int (high / low)), some (.int (high % low))] (by rfl) ?_ | refine sig [some (.int (a)), some (.int (m)), some (.int (high)), some (.int (low)), some (.int (above)), some (.int (below)), some (.int (high / low)), some (.int (high % low))] (by rfl) ?_
        refine ⟨_, rfl, _, rfl, _, _, rfl, ?_⟩
        first | refine sigN [some (.int (a)), some (.int (m)), some (.int (low)), some (.int (high % low)), some (.int (above)), some (.int (below)), some (.int (high / low)), some (.int (high % low))] (by rfl) ?_ | refine sig [some (.int (a)), some (.int (m)), some (.int (low)), some (.int (high % low)), some (.int (above)), some (.int (below)), some (.int (high / low)), some (.int (high % low))] (by rfl) ?_
        have qB : B 400 (high / low) := by
          refine B.of_le hB ?_
          have hp := eu.h0
          have h1 := Int.ediv_nonneg (show 0 ≤ high by omega) (show 0 ≤ low by omega)
          have h2 := Int.ediv_le_self low (show 0 ≤ high by omega)
          have := eu.hn
          generalize high / low = qq at h1 h2 ⊢
          omega
        refine ⟨_, rfl, _, rfl, _, rfl, _, rfl, _, _, rfl, rfl, qB.mulW (B.of_le hB z2) (by decide), _, _, rfl, rfl, _, _, rfl, ?_⟩
        have st := eu.step hl
        refine ⟨⟨s2.trans s3, low, high % low, below, above - high / low * below, _, _, rfl, st.1⟩, ?_⟩
        show (high % low).toNat < low.toNat
        have := st.2
        have := st.1.l0
        omega
    · rintro σ H2 Q1 Q2 i ⟨v, hv, e, b, e2, z⟩
      exact ⟨v, hv, e, b, e2, i _ _ z⟩
/-! ### three letters -/
def trL (x y z : Int) : List V := [.int x, .int y, .int z]
def opV : Option Int → V
  | none => .non
  | some d => .int d
/-- what stands at t: three letters for a point, (), or where the walk breaks -/
def PlAt (n : Int) (K : PySem.W.Frag) (H : Hp) (t : Addr) : R → Prop
  | .ok none => SqT K H t []
  | .ok (some P) => ∃ x y z, Rep n P.1 P.2 x y z ∧ SqT K H t (trL x y z)
  | .br d => SqT K H t [.str "broken", opV d]
theorem PlAt.same {n : Int} {K : PySem.W.Frag} {H H' : Hp} (s : Same H H') {t : Addr} : ∀ {r : R}, PlAt n K H t r → PlAt n K H' t r
  | .ok none, h => Same.tup s h
  | .ok (some P), ⟨x, y, z, h, k⟩ => ⟨x, y, z, h, Same.tup s k⟩
  | .br d, h => Same.tup s h
theorem dp0 {K : PySem.W.Frag} {H : Hp} {t : Addr} (h : SqT K H t []) : Dp K H (.ref t) (.tuple []) := .tup h .nil
theorem dp3 {K : PySem.W.Frag} {H : Hp} {t : Addr} {x y z : Int} (h : SqT K H t (trL x y z)) : Dp K H (.ref t) (.tuple [.int x, .int y, .int z]) := .tup h (.cons (.int _) (.cons (.int _) (.cons (.int _) .nil)))
theorem eq00 : PyData.eqv (.tuple []) (.tuple []) = true := rfl
theorem eq30 (x y z : Int) : PyData.eqv (.tuple [.int x, .int y, .int z]) (.tuple []) = false := rfl
def sp_doubled (K : PySem.W.Frag) : Sp := fun vs H Q _ => ∃ (n a : Int) (p : Addr) (S : Pt), vs = [.int n, .int a, .ref p] ∧ 1 < n ∧ B 300 n ∧ B 300 a ∧ Un n 2 ∧ PlAt n K H p (.ok S) ∧ ∀ H' t, Same H H' → PlAt n K H' t (sumR n a S S) → Q (.ref t) H'
abbrev s_doubled : Stmt := topS 4
theorem sc_doubled : FnScope ["n", "a", "place", "x", "y", "z", "shared", "yy", "zz", "s", "m", "x3", "y3"] ["n", "a", "place"] (defScope s_doubled) := ⟨rfl, rfl, rfl, by decide +kernel, rfl, by decide +kernel, by decide +kernel⟩
theorem k_doubled (T : Tx K mg) (D : Df K mg "doubled" s_doubled ["n", "a", "place"])  : Kl P w K mg base 1 "doubled" (sp_doubled K) := by
  have nd := sc_doubled.nd
  refine Kl.by_body D sc_doubled (fun vs H Q E h => ?_) (fun f cdv A outer s H vs Q E hr h => ?_)
  · obtain ⟨_, _, _, _, rfl, _⟩ := h
    rfl
  · obtain ⟨n, a, p, S, rfl, hn, hB, hA, h2, hP, q⟩ := h
    have hu1 := hu_of hr
    refine ⟨_, (pss_cons (ps_if (pt_cmpR (op_eqD hr.units) (pv 2) (pe_tup pa_nil) (nomark _)) (pss_one (ps_ret (pe_tup pa_nil))) pss_nil)
      (pss_cons (ps_asg (pv 2) (pg_tup rfl (pgs_cons (pg_name (i := 3) nd rfl (by first | exact Or.inl rfl | exact Or.inr rfl)) (pgs_cons (pg_name (i := 4) nd rfl (by first | exact Or.inl rfl | exact Or.inr rfl)) (pgs_cons (pg_name (i := 5) nd rfl (by first | exact Or.inl rfl | exact Or.inr rfl)) pgs_nil)))))
      (pss_cons (ps_if (pt_cmpR op_eq (pv 4) pe_int (nomark _)) (pss_one (ps_ret (pe_tup pa_nil))) pss_nil)
      (pss_cons (ps_set (i := 6) nd rfl (by first | exact Or.inl rfl | exact Or.inr rfl) (pe_callBfun cr_gcd (by rfl) T.gcd (pa_cons (pv 4) (pa_cons (pv 0) pa_nil))))
      (pss_cons (ps_if (pt_cmpR op_gt (pv 6) pe_int (nomark _)) (pss_one (ps_ret (pe_tup (pa_cons pe_str (pa_cons (pv 6) pa_nil))))) pss_nil)
      (pss_cons (ps_set (i := 7) nd rfl (by first | exact Or.inl rfl | exact Or.inr rfl) (pe_op op_mod (pe_op op_mulW (pv 4) (pv 4)) (pv 0)))
      (pss_cons (ps_set (i := 8) nd rfl (by first | exact Or.inl rfl | exact Or.inr rfl) (pe_op op_mod (pe_op op_mulW (pv 5) (pv 5)) (pv 0)))
      (pss_cons (ps_set (i := 9) nd rfl (by first | exact Or.inl rfl | exact Or.inr rfl) (pe_op op_mod (pe_op op_mulW (pe_op op_mul pe_int (pv 3)) (pv 7)) (pv 0)))
      (pss_cons (ps_set (i := 10) nd rfl (by first | exact Or.inl rfl | exact Or.inr rfl) (pe_op op_mod (pe_op op_add (pe_op op_mulW (pe_op op_mul pe_int (pv 3)) (pv 3)) (pe_op op_mulW (pe_op op_mulW (pv 1) (pv 8)) (pv 8))) (pv 0)))
      (pss_cons (ps_set (i := 11) nd rfl (by first | exact Or.inl rfl | exact Or.inr rfl) (pe_op op_mod (pe_op op_sub (pe_op op_mulW (pv 10) (pv 10)) (pe_op op_mul pe_int (pv 9))) (pv 0)))
      (pss_cons (ps_set (i := 12) nd rfl (by first | exact Or.inl rfl | exact Or.inr rfl) (pe_op op_mod (pe_op op_sub (pe_op op_mulW (pv 10) (pe_op op_sub (pv 9) (pv 11))) (pe_op op_mulW (pe_op op_mul pe_int (pv 7)) (pv 7))) (pv 0)))
      (pss_one (ps_ret (pe_tup (pa_cons (pv 11) (pa_cons (pv 12) (pa_cons (pe_op op_mod (pe_op op_mulW (pe_op op_mul pe_int (pv 4)) (pv 5)) (pv 0)) pa_nil))))))))))))))))), ?_⟩
    refine ⟨_, rfl, (by show 0 ≤ sizeLine; decide), fun e ne => ?_⟩
    have s1 := Same.new (H := H) (p := e) (o := .tup []) ne
    have ge : upd H e (.tup []) e = some (.tup []) := upd_same
    generalize upd H e (.tup []) = H1 at s1 ge ⊢
    have hn0 : 0 < n := by omega
    cases S with
    | none =>
      refine ⟨.tuple [], .tuple [], dp0 (Same.tup s1 hP), dp0 (tup_of ge), rfl, rfl, _, rfl, iteY eq00 ?_⟩
      refine ⟨(by show 0 ≤ sizeLine; decide), fun t nt => q _ t (s1.trans (Same.new nt)) (tup_of upd_same)⟩
    | some S =>
      obtain ⟨X, Y⟩ := S
      obtain ⟨x, y, z, rp, hx⟩ := hP
      refine ⟨.tuple [.int x, .int y, .int z], .tuple [], dp3 (Same.tup s1 hx), dp0 (tup_of ge), rfl, rfl, _, rfl, iteN (by rw [eq30]; decide) ?_⟩
      refine ⟨_, rfl, p, _, rfl, Same.tup s1 hx, rfl, _, _, rfl, _, _, rfl, _, _, rfl, rfl, ?_⟩
      first | refine sigN [some (.int (n)), some (.int (a)), some (.ref p), some (.int (x)), some (.int (y)), some (.int (z)), none, none, none, none, none, none, none] (by rfl) ?_ | refine sig [some (.int (n)), some (.int (a)), some (.ref p), some (.int (x)), some (.int (y)), some (.int (z)), none, none, none, none, none, none, none] (by rfl) ?_
      have xB : B 300 x := B.of_le hB (by have := rp.dx; unfold Dg at this; omega)
      have yB : B 300 y := B.of_le hB (by have := rp.dy; unfold Dg at this; omega)
      have zB : B 300 z := B.of_le hB (by have := rp.dz; unfold Dg at this; omega)
      refine ⟨_, rfl, rfl, _, rfl, ?_⟩
      rw [dec_int]
      by_cases hy : y = 0
      · refine iteY (by simpa using hy) ?_
        have e := dbl_zero (a := a) rp h2 hy
        refine ⟨(by show 0 ≤ sizeLine; decide), fun t nt => q _ t (s1.trans (Same.new nt)) ?_⟩
        rw [e]
        exact tup_of upd_same
      refine iteN (by simpa using hy) ?_
      refine ⟨_, rfl, _, rfl, y, n, rfl, ?_⟩
      obtain ⟨g, hg⟩ : ∃ g : Nat, Nat.gcd y.natAbs n.natAbs = g := ⟨_, rfl⟩
      first | refine sigN [some (.int (n)), some (.int (a)), some (.ref p), some (.int (x)), some (.int (y)), some (.int (z)), some (.int (((Nat.gcd y.natAbs n.natAbs : Nat) : Int))), none, none, none, none, none, none] (by rfl) ?_ | refine sig [some (.int (n)), some (.int (a)), some (.ref p), some (.int (x)), some (.int (y)), some (.int (z)), some (.int (((Nat.gcd y.natAbs n.natAbs : Nat) : Int))), none, none, none, none, none, none] (by rfl) ?_
      rw [hg]
      have hg' : Int.gcd y n = g := hg
      refine ⟨_, rfl, _, _, rfl, rfl, _, rfl, ?_⟩
      by_cases h1 : g = 1
      · refine iteN (by rw [h1]; decide) ?_
        have zzB : B 300 (z * z % n) := B.of_le hB (by have := Int.emod_nonneg (z * z) (show n ≠ 0 by omega); have := Int.emod_lt_of_pos (z * z) hn0; omega)
        have yyB : B 300 (y * y % n) := B.of_le hB (by have := Int.emod_nonneg (y * y) (show n ≠ 0 by omega); have := Int.emod_lt_of_pos (y * y) hn0; omega)
        have l4 : B 3 (4 : Int) := B.lit (by decide)
        have l3 : B 2 (3 : Int) := B.lit (by decide)
        have l8 : B 4 (8 : Int) := B.lit (by decide)
        have l2 : B 2 (2 : Int) := B.lit (by decide)
        have hm0 : ∀ u : Int, (0 : Int) < n := fun _ => hn0
        have mB : ∀ u : Int, B 300 (u % n) := fun u => B.of_le hB (by have := Int.emod_nonneg u (show n ≠ 0 by omega); have := Int.emod_lt_of_pos u hn0; omega)
        refine ⟨_, rfl, _, rfl, _, _, rfl, rfl, yB.mulW yB (by decide), _, rfl, _, _, rfl, rfl, hn0, ?_⟩
        first | refine sigN [some (.int (n)), some (.int (a)), some (.ref p), some (.int (x)), some (.int (y)), some (.int (z)), some (.int ((g : Int))), some (.int (y * y % n)), none, none, none, none, none] (by rfl) ?_ | refine sig [some (.int (n)), some (.int (a)), some (.ref p), some (.int (x)), some (.int (y)), some (.int (z)), some (.int ((g : Int))), some (.int (y * y % n)), none, none, none, none, none] (by rfl) ?_
        refine ⟨_, rfl, _, rfl, _, _, rfl, rfl, zB.mulW zB (by decide), _, rfl, _, _, rfl, rfl, hn0, ?_⟩
        first | refine sigN [some (.int (n)), some (.int (a)), some (.ref p), some (.int (x)), some (.int (y)), some (.int (z)), some (.int ((g : Int))), some (.int (y * y % n)), some (.int (z * z % n)), none, none, none, none] (by rfl) ?_ | refine sig [some (.int (n)), some (.int (a)), some (.ref p), some (.int (x)), some (.int (y)), some (.int (z)), some (.int ((g : Int))), some (.int (y * y % n)), some (.int (z * z % n)), none, none, none, none] (by rfl) ?_
        obtain ⟨yy, hyy⟩ : ∃ yy, y * y % n = yy := ⟨_, rfl⟩
        obtain ⟨zz, hzz⟩ : ∃ zz, z * z % n = zz := ⟨_, rfl⟩
        rw [hyy] at yyB ⊢
        rw [hzz] at zzB ⊢
        refine ⟨_, rfl, _, _, rfl, rfl, (Or.inl ⟨by decide, by decide⟩), _, rfl, _, _, rfl, rfl, (l4.mul xB).mulW yyB (by decide), _, rfl, _, _, rfl, rfl, hn0, ?_⟩
        first | refine sigN [some (.int (n)), some (.int (a)), some (.ref p), some (.int (x)), some (.int (y)), some (.int (z)), some (.int ((g : Int))), some (.int (yy)), some (.int (zz)), some (.int (4 * x * yy % n)), none, none, none] (by rfl) ?_ | refine sig [some (.int (n)), some (.int (a)), some (.ref p), some (.int (x)), some (.int (y)), some (.int (z)), some (.int ((g : Int))), some (.int (yy)), some (.int (zz)), some (.int (4 * x * yy % n)), none, none, none] (by rfl) ?_
        obtain ⟨s, hs⟩ : ∃ s, 4 * x * yy % n = s := ⟨_, rfl⟩
        have sB : B 300 s := hs ▸ mB _
        rw [hs]
        refine ⟨_, rfl, _, _, rfl, rfl, (Or.inl ⟨by decide, by decide⟩), _, rfl, _, _, rfl, rfl, (l3.mul xB).mulW xB (by decide), _, rfl, _, rfl, _, _, rfl, rfl, hA.mulW zzB (by decide), _, rfl, _, _, rfl, rfl, (hA.mul zzB).mulW zzB (by decide), _, _, rfl, rfl, _, rfl, _, _, rfl, rfl, hn0, ?_⟩
        first | refine sigN [some (.int (n)), some (.int (a)), some (.ref p), some (.int (x)), some (.int (y)), some (.int (z)), some (.int ((g : Int))), some (.int (yy)), some (.int (zz)), some (.int (s)), some (.int ((3 * x * x + a * zz * zz) % n)), none, none] (by rfl) ?_ | refine sig [some (.int (n)), some (.int (a)), some (.ref p), some (.int (x)), some (.int (y)), some (.int (z)), some (.int ((g : Int))), some (.int (yy)), some (.int (zz)), some (.int (s)), some (.int ((3 * x * x + a * zz * zz) % n)), none, none] (by rfl) ?_
        obtain ⟨m, hm⟩ : ∃ m, (3 * x * x + a * zz * zz) % n = m := ⟨_, rfl⟩
        have mmB : B 300 m := hm ▸ mB _
        rw [hm]
        refine ⟨_, rfl, _, rfl, _, _, rfl, rfl, mmB.mulW mmB (by decide), _, rfl, _, _, rfl, rfl, (Or.inl ⟨by decide, by decide⟩), _, _, rfl, rfl, _, rfl, _, _, rfl, rfl, hn0, ?_⟩
        first | refine sigN [some (.int (n)), some (.int (a)), some (.ref p), some (.int (x)), some (.int (y)), some (.int (z)), some (.int ((g : Int))), some (.int (yy)), some (.int (zz)), some (.int (s)), some (.int (m)), some (.int ((m * m - 2 * s) % n)), none] (by rfl) ?_ | refine sig [some (.int (n)), some (.int (a)), some (.ref p), some (.int (x)), some (.int (y)), some (.int (z)), some (.int ((g : Int))), some (.int (yy)), some (.int (zz)), some (.int (s)), some (.int (m)), some (.int ((m * m - 2 * s) % n)), none] (by rfl) ?_
        obtain ⟨x3, hx3⟩ : ∃ x3, (m * m - 2 * s) % n = x3 := ⟨_, rfl⟩
        have x3B : B 300 x3 := hx3 ▸ mB _
        rw [hx3]
        refine ⟨_, rfl, _, rfl, _, rfl, _, _, rfl, rfl, _, _, rfl, rfl, mmB.mulW (sB.sub x3B) (by decide), _, rfl, _, _, rfl, rfl, (Or.inl ⟨by decide, by decide⟩), _, rfl, _, _, rfl, rfl, (l8.mul yyB).mulW yyB (by decide), _, _, rfl, rfl, _, rfl, _, _, rfl, rfl, hn0, ?_⟩
        first | refine sigN [some (.int (n)), some (.int (a)), some (.ref p), some (.int (x)), some (.int (y)), some (.int (z)), some (.int ((g : Int))), some (.int (yy)), some (.int (zz)), some (.int (s)), some (.int (m)), some (.int (x3)), some (.int ((m * (s - x3) - 8 * yy * yy) % n))] (by rfl) ?_ | refine sig [some (.int (n)), some (.int (a)), some (.ref p), some (.int (x)), some (.int (y)), some (.int (z)), some (.int ((g : Int))), some (.int (yy)), some (.int (zz)), some (.int (s)), some (.int (m)), some (.int (x3)), some (.int ((m * (s - x3) - 8 * yy * yy) % n))] (by rfl) ?_
        obtain ⟨X3, Y3, e, rp3⟩ := dbl_ok (a := a) rp hn0 h2 hy (hg'.trans h1) hyy.symm hzz.symm hs.symm hm.symm hx3.symm rfl rfl
        refine ⟨_, rfl, _, rfl, _, rfl, _, _, rfl, rfl, (Or.inl ⟨by decide, by decide⟩), _, rfl, _, _, rfl, rfl, (l2.mul yB).mulW zB (by decide), _, rfl, _, _, rfl, rfl, hn0, (by show 3 ≤ sizeLine; decide), fun t nt => ?_⟩
        refine q _ t (s1.trans (Same.new nt)) ?_
        rw [e]
        exact ⟨_, _, _, rp3, tup_of upd_same⟩
      · have g0 : g ≠ 0 := by
          rw [← hg]
          exact Nat.gcd_ne_zero_right (by omega)
        refine iteY (decide_eq_true (by omega)) ?_
        have e := dbl_br (a := a) rp hn0 h2 hy (by omega)
        rw [hg'] at e
        refine ⟨_, rfl, (by show 2 ≤ sizeLine; decide), fun t nt => q _ t (s1.trans (Same.new nt)) ?_⟩
        rw [e]
        exact tup_of upd_same
end
end K45
set_option Elab.async false
set_option linter.all false
set_option maxRecDepth 100000
set_option maxHeartbeats 4000000
namespace K45
open PySem PySem.Spec PyProof.Rows L2 Gd QM K45M
theorem dp2 {K : PySem.W.Frag} {H : Hp} {t : Addr} {x y : Int} (h : SqT K H t [.int x, .int y]) : Dp K H (.ref t) (.tuple [.int x, .int y]) := .tup h (.cons (.int _) (.cons (.int _) .nil))
theorem eq20 (x y : Int) : PyData.eqv (.tuple [.int x, .int y]) (.tuple []) = false := rfl
section
variable {P : Program} {w : World} {K : PySem.W.Frag} {mg : Str → Option Value} {base : Heap}
def sp_joined (K : PySem.W.Frag) : Sp := fun vs H Q _ => ∃ (n a : Int) (p o : Addr) (S : Pt) (u v : Int), vs = [.int n, .int a, .ref p, .ref o] ∧ 1 < n ∧ B 300 n ∧ B 300 a ∧ Un n 2 ∧ PlAt n K H p (.ok S) ∧ SqT K H o [.int u, .int v] ∧ Dg n u ∧ Dg n v ∧ ∀ H' t, Same H H' → PlAt n K H' t (sumR n a S (some (u, v))) → Q (.ref t) H'
abbrev s_joined : Stmt := topS 5
theorem sc_joined : FnScope ["n", "a", "place", "point", "x", "y", "z", "zz", "across", "lifted_y", "up", "shared", "square", "cube", "base", "x3", "y3"] ["n", "a", "place", "point"] (defScope s_joined) := ⟨rfl, rfl, rfl, by decide +kernel, rfl, by decide +kernel, by decide +kernel⟩
theorem k_joined (T : Tx K mg) (D : Df K mg "joined" s_joined ["n", "a", "place", "point"]) (c_doubled : Kl P w K mg base 1 "doubled" (sp_doubled K)) : Kl P w K mg base 2 "joined" (sp_joined K) := by
  have nd := sc_joined.nd
  refine Kl.by_body D sc_joined (fun vs H Q E h => ?_) (fun f cdv A outer s H vs Q E hr h => ?_)
  · obtain ⟨_, _, _, _, _, _, _, rfl, _⟩ := h
    rfl
  · obtain ⟨n, a, p, o, S, u, v, rfl, hn, hB, hA, h2, hP, ho, hu, hv, q⟩ := h
    have hu1 := hu_of hr
    refine ⟨_, (pss_cons (ps_if (pt_cmpR (op_eqD hr.units) (pv 2) (pe_tup pa_nil) (nomark _)) (pss_one (ps_ret (pe_tup (pa_cons (pe_ix ix_tup (pv 3) pe_int (fun _ _ => rfl)) (pa_cons (pe_ix ix_tup (pv 3) pe_int (fun _ _ => rfl)) (pa_cons pe_int pa_nil)))))) pss_nil)
      (pss_cons (ps_asg (pv 2) (pg_tup rfl (pgs_cons (pg_name (i := 4) nd rfl (by first | exact Or.inl rfl | exact Or.inr rfl)) (pgs_cons (pg_name (i := 5) nd rfl (by first | exact Or.inl rfl | exact Or.inr rfl)) (pgs_cons (pg_name (i := 6) nd rfl (by first | exact Or.inl rfl | exact Or.inr rfl)) pgs_nil)))))
      (pss_cons (ps_set (i := 7) nd rfl (by first | exact Or.inl rfl | exact Or.inr rfl) (pe_op op_mod (pe_op op_mulW (pv 6) (pv 6)) (pv 0)))
      (pss_cons (ps_set (i := 8) nd rfl (by first | exact Or.inl rfl | exact Or.inr rfl) (pe_op op_mod (pe_op op_sub (pe_op op_mulW (pe_ix ix_tup (pv 3) pe_int (fun _ _ => rfl)) (pv 7)) (pv 4)) (pv 0)))
      (pss_cons (ps_set (i := 9) nd rfl (by first | exact Or.inl rfl | exact Or.inr rfl) (pe_op op_mulW (pe_op op_mulW (pe_ix ix_tup (pv 3) pe_int (fun _ _ => rfl)) (pv 7)) (pv 6)))
      (pss_cons (ps_set (i := 10) nd rfl (by first | exact Or.inl rfl | exact Or.inr rfl) (pe_op op_mod (pe_op op_sub (pv 9) (pv 5)) (pv 0)))
      (pss_cons (ps_if (pt_cmpR op_eq (pv 8) pe_int (nomark _)) (pss_cons (ps_if (pt_cmpR op_eq (pe_op op_mod (pe_op op_add (pv 9) (pv 5)) (pv 0)) pe_int (nomark _)) (pss_one (ps_ret (pe_tup pa_nil))) pss_nil)
      (pss_one (ps_ret (pe_ifExp (pt_cmpR op_eq (pv 10) pe_int (nomark _)) (pe_k c_doubled  hr (by decide) (by rfl) (pa_cons (pv 0) (pa_cons (pv 1) (pa_cons (pv 2) pa_nil)))) (pe_tup (pa_cons pe_str (pa_cons pe_non pa_nil))))))) pss_nil)
      (pss_cons (ps_set (i := 11) nd rfl (by first | exact Or.inl rfl | exact Or.inr rfl) (pe_callBfun cr_gcd (by rfl) T.gcd (pa_cons (pv 8) (pa_cons (pv 0) pa_nil))))
      (pss_cons (ps_if (pt_cmpR op_gt (pv 11) pe_int (nomark _)) (pss_one (ps_ret (pe_tup (pa_cons pe_str (pa_cons (pv 11) pa_nil))))) pss_nil)
      (pss_cons (ps_set (i := 12) nd rfl (by first | exact Or.inl rfl | exact Or.inr rfl) (pe_op op_mod (pe_op op_mulW (pv 8) (pv 8)) (pv 0)))
      (pss_cons (ps_set (i := 13) nd rfl (by first | exact Or.inl rfl | exact Or.inr rfl) (pe_op op_mod (pe_op op_mulW (pv 12) (pv 8)) (pv 0)))
      (pss_cons (ps_set (i := 14) nd rfl (by first | exact Or.inl rfl | exact Or.inr rfl) (pe_op op_mod (pe_op op_mulW (pv 4) (pv 12)) (pv 0)))
      (pss_cons (ps_set (i := 15) nd rfl (by first | exact Or.inl rfl | exact Or.inr rfl) (pe_op op_mod (pe_op op_sub (pe_op op_sub (pe_op op_mulW (pv 10) (pv 10)) (pv 13)) (pe_op op_mul pe_int (pv 14))) (pv 0)))
      (pss_cons (ps_set (i := 16) nd rfl (by first | exact Or.inl rfl | exact Or.inr rfl) (pe_op op_mod (pe_op op_sub (pe_op op_mulW (pv 10) (pe_op op_sub (pv 14) (pv 15))) (pe_op op_mulW (pv 5) (pv 13))) (pv 0)))
      (pss_one (ps_ret (pe_tup (pa_cons (pv 15) (pa_cons (pv 16) (pa_cons (pe_op op_mod (pe_op op_mulW (pv 6) (pv 8)) (pv 0)) pa_nil)))))))))))))))))))), ?_⟩
    refine ⟨_, rfl, (by show 0 ≤ sizeLine; decide), fun e ne => ?_⟩
    have s1 := Same.new (H := H) (p := e) (o := .tup []) ne
    have ge : upd H e (.tup []) e = some (.tup []) := upd_same
    generalize upd H e (.tup []) = H1 at s1 ge ⊢
    have hn0 : 0 < n := by omega
    have ho1 := Same.tup s1 ho
    have mB : ∀ u : Int, B 300 (u % n) := fun u => B.of_le hB (by have := Int.emod_nonneg u (show n ≠ 0 by omega); have := Int.emod_lt_of_pos u hn0; omega)
    have dB : ∀ {u : Int}, Dg n u → B 300 u := fun h => B.of_le hB (by unfold Dg at h; omega)
    have uB := dB hu
    have vB := dB hv
    cases S with
    | none =>
      refine ⟨.tuple [], .tuple [], dp0 (Same.tup s1 hP), dp0 (tup_of ge), rfl, rfl, _, rfl, iteY eq00 ?_⟩
      refine ⟨_, rfl, o, _, 0, _, rfl, rfl, ho1, rfl, _, rfl, o, _, 1, _, rfl, rfl, ho1, rfl, (by show 3 ≤ sizeLine; decide), fun t nt => q _ t (s1.trans (Same.new nt)) ?_⟩
      refine ⟨u, v, 1, ⟨hu, hv, hu, hv, ⟨by decide, hn⟩, Un.one, ?_, ?_⟩, tup_of upd_same⟩
      · exact Mo.of_eq (by simp)
      · exact Mo.of_eq (by simp)
    | some S =>
      obtain ⟨X, Y⟩ := S
      obtain ⟨x, y, z, rp, hx⟩ := hP
      replace hx := Same.tup s1 hx
      refine ⟨.tuple [.int x, .int y, .int z], .tuple [], dp3 hx, dp0 (tup_of ge), rfl, rfl, _, rfl, iteN (by rw [eq30]; decide) ?_⟩
      refine ⟨_, rfl, p, _, rfl, hx, rfl, _, _, rfl, _, _, rfl, _, _, rfl, rfl, ?_⟩
      first | refine sigN [some (.int (n)), some (.int (a)), some (.ref p), some (.ref o), some (.int (x)), some (.int (y)), some (.int (z)), none, none, none, none, none, none, none, none, none, none] (by rfl) ?_ | refine sig [some (.int (n)), some (.int (a)), some (.ref p), some (.ref o), some (.int (x)), some (.int (y)), some (.int (z)), none, none, none, none, none, none, none, none, none, none] (by rfl) ?_
      have xB := dB rp.dx
      have yB := dB rp.dy
      have zB := dB rp.dz
      refine ⟨_, rfl, _, rfl, _, _, rfl, rfl, zB.mulW zB (by decide), _, rfl, _, _, rfl, rfl, hn0, ?_⟩
      first | refine sigN [some (.int (n)), some (.int (a)), some (.ref p), some (.ref o), some (.int (x)), some (.int (y)), some (.int (z)), some (.int (z * z % n)), none, none, none, none, none, none, none, none, none] (by rfl) ?_ | refine sig [some (.int (n)), some (.int (a)), some (.ref p), some (.ref o), some (.int (x)), some (.int (y)), some (.int (z)), some (.int (z * z % n)), none, none, none, none, none, none, none, none, none] (by rfl) ?_
      obtain ⟨zz, hzz⟩ : ∃ zz, z * z % n = zz := ⟨_, rfl⟩
      have zzB : B 300 zz := hzz ▸ mB _
      rw [hzz]
      refine ⟨_, rfl, o, _, 0, _, rfl, rfl, ho1, rfl, _, rfl, _, _, rfl, rfl, uB.mulW zzB (by decide), _, rfl, _, _, rfl, rfl, _, rfl, _, _, rfl, rfl, hn0, ?_⟩
      first | refine sigN [some (.int (n)), some (.int (a)), some (.ref p), some (.ref o), some (.int (x)), some (.int (y)), some (.int (z)), some (.int (zz)), some (.int ((u * zz - x) % n)), none, none, none, none, none, none, none, none] (by rfl) ?_ | refine sig [some (.int (n)), some (.int (a)), some (.ref p), some (.ref o), some (.int (x)), some (.int (y)), some (.int (z)), some (.int (zz)), some (.int ((u * zz - x) % n)), none, none, none, none, none, none, none, none] (by rfl) ?_
      obtain ⟨ac, hac⟩ : ∃ ac, (u * zz - x) % n = ac := ⟨_, rfl⟩
      have acB : B 300 ac := hac ▸ mB _
      rw [hac]
      refine ⟨_, rfl, o, _, 1, _, rfl, rfl, ho1, rfl, _, rfl, _, _, rfl, rfl, vB.mulW zzB (by decide), _, rfl, _, _, rfl, rfl, (vB.mul zzB).mulW zB (by decide), ?_⟩
      first | refine sigN [some (.int (n)), some (.int (a)), some (.ref p), some (.ref o), some (.int (x)), some (.int (y)), some (.int (z)), some (.int (zz)), some (.int (ac)), some (.int (v * zz * z)), none, none, none, none, none, none, none] (by rfl) ?_ | refine sig [some (.int (n)), some (.int (a)), some (.ref p), some (.ref o), some (.int (x)), some (.int (y)), some (.int (z)), some (.int (zz)), some (.int (ac)), some (.int (v * zz * z)), none, none, none, none, none, none, none] (by rfl) ?_
      refine ⟨_, rfl, _, rfl, _, _, rfl, rfl, _, rfl, _, _, rfl, rfl, hn0, ?_⟩
      first | refine sigN [some (.int (n)), some (.int (a)), some (.ref p), some (.ref o), some (.int (x)), some (.int (y)), some (.int (z)), some (.int (zz)), some (.int (ac)), some (.int (v * zz * z)), some (.int ((v * zz * z - y) % n)), none, none, none, none, none, none] (by rfl) ?_ | refine sig [some (.int (n)), some (.int (a)), some (.ref p), some (.ref o), some (.int (x)), some (.int (y)), some (.int (z)), some (.int (zz)), some (.int (ac)), some (.int (v * zz * z)), some (.int ((v * zz * z - y) % n)), none, none, none, none, none, none] (by rfl) ?_
      obtain ⟨li, hli⟩ : ∃ li, v * zz * z = li := ⟨_, rfl⟩
      rw [hli]
      obtain ⟨up, hup⟩ : ∃ up, (li - y) % n = up := ⟨_, rfl⟩
      have upB : B 300 up := hup ▸ mB _
      rw [hup]
      have j : Jn n X Y x y z u v zz li ac up := ⟨hzz.symm, hli.symm, hac.symm, hup.symm⟩
      refine ⟨_, rfl, rfl, _, rfl, ?_⟩
      rw [dec_int]
      by_cases h0 : ac = 0
      · refine iteY (by simpa using h0) ?_
        have eX := (j.across0 rp hn0 hu).mp h0
        refine ⟨_, rfl, _, rfl, _, _, rfl, rfl, _, rfl, _, _, rfl, rfl, hn0, rfl, _, rfl, ?_⟩
        rw [dec_int]
        by_cases hop : (li + y) % n = 0
        · refine iteY (by simpa using hop) ?_
          refine ⟨(by show 0 ≤ sizeLine; decide), fun t nt => q _ t (s1.trans (Same.new nt)) ?_⟩
          rw [sumR_ss, if_pos eX, if_pos ((j.opp rp).mp hop)]
          exact tup_of upd_same
        refine iteN (by simpa using hop) ?_
        refine ⟨_, rfl, rfl, _, rfl, ?_⟩
        rw [dec_int]
        by_cases h1 : up = 0
        · refine iteY (by simpa using h1) ?_
          have eY := (j.up0 rp hn0 hv).mp h1
          refine ⟨_, rfl, _, rfl, _, rfl, n, a, p, some (X, Y), rfl, hn, hB, hA, h2, ⟨x, y, z, rp, hx⟩, fun H' t s2 ht => q _ t (s1.trans s2) ?_⟩
          rw [← eX, ← eY]
          exact ht
        · refine iteN (by simpa using h1) ?_
          refine ⟨(by show 2 ≤ sizeLine; decide), fun t nt => q _ t (s1.trans (Same.new nt)) ?_⟩
          rw [sumR_ss, if_pos eX, if_neg (fun z => hop ((j.opp rp).mpr z)), if_pos (fun z => h1 ((j.up0 rp hn0 hv).mpr z))]
          exact tup_of upd_same
      refine iteN (by simpa using h0) ?_
      refine ⟨_, rfl, _, rfl, ac, n, rfl, ?_⟩
      obtain ⟨g, hg⟩ : ∃ g : Nat, Nat.gcd ac.natAbs n.natAbs = g := ⟨_, rfl⟩
      first | refine sigN [some (.int (n)), some (.int (a)), some (.ref p), some (.ref o), some (.int (x)), some (.int (y)), some (.int (z)), some (.int (zz)), some (.int (ac)), some (.int (li)), some (.int (up)), some (.int (((Nat.gcd ac.natAbs n.natAbs : Nat) : Int))), none, none, none, none, none] (by rfl) ?_ | refine sig [some (.int (n)), some (.int (a)), some (.ref p), some (.ref o), some (.int (x)), some (.int (y)), some (.int (z)), some (.int (zz)), some (.int (ac)), some (.int (li)), some (.int (up)), some (.int (((Nat.gcd ac.natAbs n.natAbs : Nat) : Int))), none, none, none, none, none] (by rfl) ?_
      rw [hg]
      have hg' : Int.gcd ac n = g := hg
      refine ⟨_, rfl, _, _, rfl, rfl, _, rfl, ?_⟩
      by_cases h1 : g = 1
      · refine iteN (by rw [h1]; decide) ?_
        have l2 : B 2 (2 : Int) := B.lit (by decide)
        refine ⟨_, rfl, _, rfl, _, _, rfl, rfl, acB.mulW acB (by decide), _, rfl, _, _, rfl, rfl, hn0, ?_⟩
        first | refine sigN [some (.int (n)), some (.int (a)), some (.ref p), some (.ref o), some (.int (x)), some (.int (y)), some (.int (z)), some (.int (zz)), some (.int (ac)), some (.int (li)), some (.int (up)), some (.int ((g : Int))), some (.int (ac * ac % n)), none, none, none, none] (by rfl) ?_ | refine sig [some (.int (n)), some (.int (a)), some (.ref p), some (.ref o), some (.int (x)), some (.int (y)), some (.int (z)), some (.int (zz)), some (.int (ac)), some (.int (li)), some (.int (up)), some (.int ((g : Int))), some (.int (ac * ac % n)), none, none, none, none] (by rfl) ?_
        obtain ⟨sq, hsq⟩ : ∃ sq, ac * ac % n = sq := ⟨_, rfl⟩
        have sqB : B 300 sq := hsq ▸ mB _
        rw [hsq]
        refine ⟨_, rfl, _, rfl, _, _, rfl, rfl, sqB.mulW acB (by decide), _, rfl, _, _, rfl, rfl, hn0, ?_⟩
        first | refine sigN [some (.int (n)), some (.int (a)), some (.ref p), some (.ref o), some (.int (x)), some (.int (y)), some (.int (z)), some (.int (zz)), some (.int (ac)), some (.int (li)), some (.int (up)), some (.int ((g : Int))), some (.int (sq)), some (.int (sq * ac % n)), none, none, none] (by rfl) ?_ | refine sig [some (.int (n)), some (.int (a)), some (.ref p), some (.ref o), some (.int (x)), some (.int (y)), some (.int (z)), some (.int (zz)), some (.int (ac)), some (.int (li)), some (.int (up)), some (.int ((g : Int))), some (.int (sq)), some (.int (sq * ac % n)), none, none, none] (by rfl) ?_
        obtain ⟨cu, hcu⟩ : ∃ cu, sq * ac % n = cu := ⟨_, rfl⟩
        have cuB : B 300 cu := hcu ▸ mB _
        rw [hcu]
        refine ⟨_, rfl, _, rfl, _, _, rfl, rfl, xB.mulW sqB (by decide), _, rfl, _, _, rfl, rfl, hn0, ?_⟩
        first | refine sigN [some (.int (n)), some (.int (a)), some (.ref p), some (.ref o), some (.int (x)), some (.int (y)), some (.int (z)), some (.int (zz)), some (.int (ac)), some (.int (li)), some (.int (up)), some (.int ((g : Int))), some (.int (sq)), some (.int (cu)), some (.int (x * sq % n)), none, none] (by rfl) ?_ | refine sig [some (.int (n)), some (.int (a)), some (.ref p), some (.ref o), some (.int (x)), some (.int (y)), some (.int (z)), some (.int (zz)), some (.int (ac)), some (.int (li)), some (.int (up)), some (.int ((g : Int))), some (.int (sq)), some (.int (cu)), some (.int (x * sq % n)), none, none] (by rfl) ?_
        obtain ⟨bs, hbs⟩ : ∃ bs, x * sq % n = bs := ⟨_, rfl⟩
        have bsB : B 300 bs := hbs ▸ mB _
        rw [hbs]
        refine ⟨_, rfl, _, rfl, _, _, rfl, rfl, upB.mulW upB (by decide), _, rfl, _, _, rfl, rfl, _, rfl, _, _, rfl, rfl, (Or.inl ⟨by decide, by decide⟩), _, _, rfl, rfl, _, rfl, _, _, rfl, rfl, hn0, ?_⟩
        first | refine sigN [some (.int (n)), some (.int (a)), some (.ref p), some (.ref o), some (.int (x)), some (.int (y)), some (.int (z)), some (.int (zz)), some (.int (ac)), some (.int (li)), some (.int (up)), some (.int ((g : Int))), some (.int (sq)), some (.int (cu)), some (.int (bs)), some (.int ((up * up - cu - 2 * bs) % n)), none] (by rfl) ?_ | refine sig [some (.int (n)), some (.int (a)), some (.ref p), some (.ref o), some (.int (x)), some (.int (y)), some (.int (z)), some (.int (zz)), some (.int (ac)), some (.int (li)), some (.int (up)), some (.int ((g : Int))), some (.int (sq)), some (.int (cu)), some (.int (bs)), some (.int ((up * up - cu - 2 * bs) % n)), none] (by rfl) ?_
        obtain ⟨x3, hx3⟩ : ∃ x3, (up * up - cu - 2 * bs) % n = x3 := ⟨_, rfl⟩
        have x3B : B 300 x3 := hx3 ▸ mB _
        rw [hx3]
        refine ⟨_, rfl, _, rfl, _, rfl, _, _, rfl, rfl, _, _, rfl, rfl, upB.mulW (bsB.sub x3B) (by decide), _, rfl, _, rfl, _, _, rfl, rfl, yB.mulW cuB (by decide), _, _, rfl, rfl, _, rfl, _, _, rfl, rfl, hn0, ?_⟩
        first | refine sigN [some (.int (n)), some (.int (a)), some (.ref p), some (.ref o), some (.int (x)), some (.int (y)), some (.int (z)), some (.int (zz)), some (.int (ac)), some (.int (li)), some (.int (up)), some (.int ((g : Int))), some (.int (sq)), some (.int (cu)), some (.int (bs)), some (.int (x3)), some (.int ((up * (bs - x3) - y * cu) % n))] (by rfl) ?_ | refine sig [some (.int (n)), some (.int (a)), some (.ref p), some (.ref o), some (.int (x)), some (.int (y)), some (.int (z)), some (.int (zz)), some (.int (ac)), some (.int (li)), some (.int (up)), some (.int ((g : Int))), some (.int (sq)), some (.int (cu)), some (.int (bs)), some (.int (x3)), some (.int ((up * (bs - x3) - y * cu) % n))] (by rfl) ?_
        obtain ⟨X3, Y3, e, rp3⟩ := join_ok (a := a) j rp hn0 hu h0 (hg'.trans h1) hsq.symm hcu.symm hbs.symm hx3.symm rfl rfl
        refine ⟨_, rfl, _, rfl, _, rfl, _, rfl, _, _, rfl, rfl, zB.mulW acB (by decide), _, rfl, _, _, rfl, rfl, hn0, (by show 3 ≤ sizeLine; decide), fun t nt => ?_⟩
        refine q _ t (s1.trans (Same.new nt)) ?_
        rw [e]
        exact ⟨_, _, _, rp3, tup_of upd_same⟩
      · have g0 : g ≠ 0 := by
          rw [← hg]
          exact Nat.gcd_ne_zero_right (by omega)
        refine iteY (decide_eq_true (by omega)) ?_
        have e := join_br (a := a) j rp hn0 hu h0 (by omega)
        rw [hg'] at e
        refine ⟨_, rfl, (by show 2 ≤ sizeLine; decide), fun t nt => q _ t (s1.trans (Same.new nt)) ?_⟩
        rw [e]
        exact tup_of upd_same
/-! ### two letters -/
def ptL : Pt → List V
  | none => []
  | some P => [.int P.1, .int P.2]
def sp_settled (K : PySem.W.Frag) : Sp := fun vs H Q _ => ∃ (n : Int) (p : Addr) (S : Pt), vs = [.int n, .ref p] ∧ 1 < n ∧ B 300 n ∧ PlAt n K H p (.ok S) ∧ ∀ H' t, Same H H' → SqT K H' t (ptL S) → Q (.ref t) H'
abbrev s_settled : Stmt := topS 6
theorem sc_settled : FnScope ["n", "place", "x", "y", "z", "turn", "square"] ["n", "place"] (defScope s_settled) := ⟨rfl, rfl, rfl, by decide +kernel, rfl, by decide +kernel, by decide +kernel⟩
theorem k_settled (T : Tx K mg) (D : Df K mg "settled" s_settled ["n", "place"]) (c_inverse_mod : Kl P w K mg base 1 "inverse_mod" (sp_inverse_mod K)) : Kl P w K mg base 2 "settled" (sp_settled K) := by
  have nd := sc_settled.nd
  refine Kl.by_body D sc_settled (fun vs H Q E h => ?_) (fun f cdv A outer s H vs Q E hr h => ?_)
  · obtain ⟨_, _, _, rfl, _⟩ := h
    rfl
  · obtain ⟨n, p, S, rfl, hn, hB, hP, q⟩ := h
    have hu1 := hu_of hr
    refine ⟨_, (pss_cons (ps_if (pt_cmpR (op_eqD hr.units) (pv 1) (pe_tup pa_nil) (nomark _)) (pss_one (ps_ret (pe_tup pa_nil))) pss_nil)
      (pss_cons (ps_asg (pv 1) (pg_tup rfl (pgs_cons (pg_name (i := 2) nd rfl (by first | exact Or.inl rfl | exact Or.inr rfl)) (pgs_cons (pg_name (i := 3) nd rfl (by first | exact Or.inl rfl | exact Or.inr rfl)) (pgs_cons (pg_name (i := 4) nd rfl (by first | exact Or.inl rfl | exact Or.inr rfl)) pgs_nil)))))
      (pss_cons (ps_set (i := 5) nd rfl (by first | exact Or.inl rfl | exact Or.inr rfl) (pe_k c_inverse_mod  hr (by decide) (by rfl) (pa_cons (pv 4) (pa_cons (pv 0) pa_nil))))
      (pss_cons (ps_set (i := 6) nd rfl (by first | exact Or.inl rfl | exact Or.inr rfl) (pe_op op_mod (pe_op op_mulW (pv 5) (pv 5)) (pv 0)))
      (pss_one (ps_ret (pe_tup (pa_cons (pe_op op_mod (pe_op op_mulW (pv 2) (pv 6)) (pv 0)) (pa_cons (pe_op op_mod (pe_op op_mulW (pe_op op_mulW (pv 3) (pv 6)) (pv 5)) (pv 0)) pa_nil))))))))), ?_⟩
    refine ⟨_, rfl, (by show 0 ≤ sizeLine; decide), fun e ne => ?_⟩
    have s1 := Same.new (H := H) (p := e) (o := .tup []) ne
    have ge : upd H e (.tup []) e = some (.tup []) := upd_same
    generalize upd H e (.tup []) = H1 at s1 ge ⊢
    have hn0 : 0 < n := by omega
    have mB : ∀ u : Int, B 300 (u % n) := fun u => B.of_le hB (by have := Int.emod_nonneg u (show n ≠ 0 by omega); have := Int.emod_lt_of_pos u hn0; omega)
    have dB : ∀ {u : Int}, Dg n u → B 300 u := fun h => B.of_le hB (by unfold Dg at h; omega)
    cases S with
    | none =>
      refine ⟨.tuple [], .tuple [], dp0 (Same.tup s1 hP), dp0 (tup_of ge), rfl, rfl, _, rfl, iteY eq00 ?_⟩
      refine ⟨(by show 0 ≤ sizeLine; decide), fun t nt => q _ t (s1.trans (Same.new nt)) (tup_of upd_same)⟩
    | some S =>
      obtain ⟨X, Y⟩ := S
      obtain ⟨x, y, z, rp, hx⟩ := hP
      replace hx := Same.tup s1 hx
      refine ⟨.tuple [.int x, .int y, .int z], .tuple [], dp3 hx, dp0 (tup_of ge), rfl, rfl, _, rfl, iteN (by rw [eq30]; decide) ?_⟩
      refine ⟨_, rfl, p, _, rfl, hx, rfl, _, _, rfl, _, _, rfl, _, _, rfl, rfl, ?_⟩
      first | refine sigN [some (.int (n)), some (.ref p), some (.int (x)), some (.int (y)), some (.int (z)), none, none] (by rfl) ?_ | refine sig [some (.int (n)), some (.ref p), some (.int (x)), some (.int (y)), some (.int (z)), none, none] (by rfl) ?_
      have xB := dB rp.dx
      have yB := dB rp.dy
      refine ⟨_, rfl, _, rfl, z, n, rfl, hn, hB.up (by decide), (un_iff hn0).mp rp.u, fun H2 t s2 hi => ?_⟩
      have tB := dB hi.1
      first | refine sigN [some (.int (n)), some (.ref p), some (.int (x)), some (.int (y)), some (.int (z)), some (.int (t)), none] (by rfl) ?_ | refine sig [some (.int (n)), some (.ref p), some (.int (x)), some (.int (y)), some (.int (z)), some (.int (t)), none] (by rfl) ?_
      refine ⟨_, rfl, _, rfl, _, _, rfl, rfl, tB.mulW tB (by decide), _, rfl, _, _, rfl, rfl, hn0, ?_⟩
      first | refine sigN [some (.int (n)), some (.ref p), some (.int (x)), some (.int (y)), some (.int (z)), some (.int (t)), some (.int (t * t % n))] (by rfl) ?_ | refine sig [some (.int (n)), some (.ref p), some (.int (x)), some (.int (y)), some (.int (z)), some (.int (t)), some (.int (t * t % n))] (by rfl) ?_
      have ttB := mB (t * t)
      obtain ⟨e1, e2⟩ := settle rp hn0 hi
      refine ⟨_, rfl, _, rfl, _, _, rfl, rfl, xB.mulW ttB (by decide), _, rfl, _, _, rfl, rfl, hn0, _, rfl, _, rfl, _, _, rfl, rfl, yB.mulW ttB (by decide), _, rfl, _, _, rfl, rfl, (yB.mul ttB).mulW tB (by decide), _, rfl, _, _, rfl, rfl, hn0, (by show 2 ≤ sizeLine; decide), fun r nr => q _ r (s1.trans (s2.trans (Same.new nr))) (tup_of ?_)⟩
      rw [upd_same]
      show some (HO.tup [V.int (x * (t * t % n) % n), V.int (y * (t * t % n) * t % n)]) = some (HO.tup [V.int X, V.int Y])
      rw [e1, e2]
end
end K45
set_option Elab.async false
set_option linter.all false
set_option maxRecDepth 100000
set_option maxHeartbeats 4000000
namespace K45
open PySem PySem.Spec PyProof.Rows L2 Gd QM K45M
/-- how many figures -/
def bl (k : Nat) : Nat := if k = 0 then 0 else k.log2 + 1
theorem bits_eq (k : Nat) : Builtin.Int.intBits (k : Int) = bl k := by
  unfold Builtin.Int.intBits bl
  by_cases h : k = 0
  · subst h
    rfl
  · rw [if_neg h, if_neg (by simp; omega)]
    rfl
theorem bl_le {k : Nat} (h : B 300 (k : Int)) : bl k ≤ 300 := by
  unfold bl
  split
  · omega
  · have := (Nat.log2_lt (by omega : k ≠ 0)).mpr (show k < 2 ^ 300 by unfold Gd.B at h; omega)
    omega
/-- an answer -/
def RAt (K : PySem.W.Frag) (H : Hp) (t : Addr) : R → Prop
  | .ok S => ∃ s, SqT K H t [.str "point", .ref s] ∧ SqT K H s (ptL S)
  | .br d => SqT K H t [.str "broken", opV d]
theorem RAt.same {K : PySem.W.Frag} {H H' : Hp} (s : Same H H') {t : Addr} : ∀ {r : R}, RAt K H t r → RAt K H' t r
  | .ok S, ⟨p, h, k⟩ => ⟨p, Same.tup s h, Same.tup s k⟩
  | .br d, h => Same.tup s h
def ptD : Pt → List PyData
  | none => []
  | some P => [.int P.1, .int P.2]
def opD : Option Int → PyData
  | none => .none
  | some d => .int d
def rD : R → PyData
  | .ok S => .tuple [.str "point", .tuple (ptD S)]
  | .br d => .tuple [.str "broken", opD d]
theorem dp_pt {K : PySem.W.Frag} {H : Hp} {t : Addr} {S : Pt} (h : SqT K H t (ptL S)) : Dp K H (.ref t) (.tuple (ptD S)) := by
  cases S with
  | none => exact .tup h .nil
  | some P => exact .tup h (.cons (.int _) (.cons (.int _) .nil))
theorem RAt.dp {K : PySem.W.Frag} {H : Hp} {t : Addr} : ∀ {r : R}, RAt K H t r → Dp K H (.ref t) (rD r)
  | .ok S, ⟨p, h, k⟩ => .tup h (.cons (.str _) (.cons (dp_pt k) .nil))
  | .br none, h => .tup h (.cons (.str _) (.cons .non .nil))
  | .br (some d), h => .tup h (.cons (.str _) (.cons (.int _) .nil))
theorem sum_sq_lens {n : Int} {K : PySem.W.Frag} {H : Hp} {t : Addr} {S : Pt} (h : PlAt n K H t (.ok S)) : ∃ xs, SqT K H t xs ∧ (xs.length : Int) ≠ 2 := by
  cases S with
  | none => exact ⟨_, h, by decide⟩
  | some P =>
    obtain ⟨x, y, z, _, k⟩ := h
    exact ⟨_, k, by show (3 : Int) ≠ 2; decide⟩
theorem wk_succ (n a : Int) (p : Int × Int) (k j : Nat) (P : Pt) : wk n a p k (j + 1) P = match st n a p (k / 2 ^ j % 2 == 1) P with
    | .br d => .br d
    | .ok P' => wk n a p k j P' := rfl
theorem two_unit {n : Int} (h : n % 2 = 1) : Un n 2 := ⟨(n + 1) / 2, Mo.iff_dvd.mpr ⟨1, by omega⟩⟩
section
variable {P : Program} {w : World} {K : PySem.W.Frag} {mg : Str → Option Value} {base : Heap}
def sp_walk (K : PySem.W.Frag) : Sp := fun vs H Q _ => ∃ (n a : Int) (o : Addr) (k : Nat) (u v : Int), vs = [.int n, .int a, .ref o, .int (k : Int)] ∧ 1 < n ∧ B 300 n ∧ B 300 a ∧ Un n 2 ∧ SqT K H o [.int u, .int v] ∧ Dg n u ∧ Dg n v ∧ B 300 (k : Int) ∧ ∀ H' t, Same H H' → RAt K H' t (wk n a (u, v) k (bl k) none) → Q (.ref t) H'
abbrev s_walk : Stmt := topS 7
theorem sc_walk : FnScope ["n", "a", "point", "k", "place", "at"] ["n", "a", "point", "k"] (defScope s_walk) := ⟨rfl, rfl, rfl, by decide +kernel, rfl, by decide +kernel, by decide +kernel⟩
theorem k_walk (T : Tx K mg) (D : Df K mg "walk" s_walk ["n", "a", "point", "k"]) (c_doubled : Kl P w K mg base 1 "doubled" (sp_doubled K)) (c_settled : Kl P w K mg base 2 "settled" (sp_settled K)) (c_joined : Kl P w K mg base 2 "joined" (sp_joined K)) : Kl P w K mg base 3 "walk" (sp_walk K) := by
  have nd := sc_walk.nd
  refine Kl.by_body D sc_walk (fun vs H Q E h => ?_) (fun f cdv A outer s H vs Q E hr h => ?_)
  · obtain ⟨_, _, _, _, _, _, rfl, _⟩ := h
    rfl
  · obtain ⟨n, a, o, k, u, v, rfl, hn, hB, hA, h2, ho, hu, hv, hk, q⟩ := h
    have hu1 := hu_of hr
    refine ⟨_, (pss_cons (ps_if (pt_cmpR (op_eqD hr.units) (pv 2) (pe_tup pa_nil) (nomark _)) (pss_one (ps_ret (pe_tup (pa_cons pe_str (pa_cons (pe_tup pa_nil) pa_nil))))) pss_nil)
      (pss_cons (ps_set (i := 4) nd rfl (by first | exact Or.inl rfl | exact Or.inr rfl) (pe_tup pa_nil))
      (pss_cons (ps_for PassesOwn.never rfl (pi_range3 (by rfl) T.range (pa_cons (pe_op op_sub (pe_bits (pv 3)) pe_int) (pa_cons (pe_un un_neg pe_int) (pa_cons (pe_un un_neg pe_int) pa_nil)))) (pg_name (i := 5) nd rfl (by first | exact Or.inl rfl | exact Or.inr rfl)) (pss_cons (ps_set (i := 4) nd rfl (by first | exact Or.inl rfl | exact Or.inr rfl) (pe_k c_doubled  hr (by decide) (by rfl) (pa_cons (pv 0) (pa_cons (pv 1) (pa_cons (pv 4) pa_nil)))))
      (pss_cons (ps_if (PW.pt (pw_and (pt_cmpR op_ne (pe_callB call_len_seq (by rfl) T.len (by decide +kernel) (pa_cons (pv 4) pa_nil)) pe_int (nomark _)) (pw_and1 (pt_truth (pe_op op_andM (pe_op op_shrN (pv 3) (pv 5)) pe_int) (fun _ => rfl))))) (pss_one (ps_set (i := 4) nd rfl (by first | exact Or.inl rfl | exact Or.inr rfl) (pe_k c_joined  hr (by decide) (by rfl) (pa_cons (pv 0) (pa_cons (pv 1) (pa_cons (pv 4) (pa_cons (pv 2) pa_nil))))))) pss_nil)
      (pss_one (ps_if (pt_cmpR op_eq (pe_callB call_len_seq (by rfl) T.len (by decide +kernel) (pa_cons (pv 4) pa_nil)) pe_int (nomark _)) (pss_one (ps_ret (pv 4))) pss_nil)))))
      (pss_one (ps_ret (pe_tup (pa_cons pe_str (pa_cons (pe_k c_settled  hr (by decide) (by rfl) (pa_cons (pv 0) (pa_cons (pv 4) pa_nil))) pa_nil)))))))), ?_⟩
    refine ⟨_, rfl, (by show 0 ≤ sizeLine; decide), fun e ne => ?_⟩
    have s1 := Same.new (H := H) (p := e) (o := .tup []) ne
    have ge : upd H e (.tup []) e = some (.tup []) := upd_same
    generalize upd H e (.tup []) = H1 at s1 ge ⊢
    have ho1 := Same.tup s1 ho
    refine ⟨.tuple [.int u, .int v], .tuple [], dp2 ho1, dp0 (tup_of ge), rfl, rfl, _, rfl, iteN (by rw [eq20]; decide) ?_⟩
    refine ⟨(by show 0 ≤ sizeLine; decide), fun p0 np0 => ?_⟩
    have s2 := Same.new (H := H1) (p := p0) (o := .tup []) np0
    have gp0 : upd H1 p0 (.tup []) p0 = some (.tup []) := upd_same
    generalize upd H1 p0 (.tup []) = H2 at s2 gp0 ⊢
    first | refine sigN [some (.int (n)), some (.int (a)), some (.ref o), some (.int ((k : Int))), some (.ref p0), none] (by rfl) ?_ | refine sig [some (.int (n)), some (.int (a)), some (.ref o), some (.int ((k : Int))), some (.ref p0), none] (by rfl) ?_
    obtain ⟨L, hL⟩ : ∃ L, bl k = L := ⟨_, rfl⟩
    have L300 : L ≤ 300 := hL ▸ bl_le hk
    refine ⟨_, rfl, _, rfl, ?_⟩
    rw [bits_eq, hL]
    refine ⟨_, _, rfl, rfl, _, rfl, _, rfl, _, _, _, _, rfl, RgC.neg (by omega) (by omega) (by omega) (by omega), ?_⟩
    rw [hL] at q
    rw [show ((L : Int) - 1 - -1).toNat = L by omega]
    refine for_rangeC (lo := (L : Int) - 1) (c := -1) (n := L) (fun i σ H3 => Same H2 H3 ∧ ∃ (p : Addr) (S : Pt) (v1 : Option V), σ = [some (.int n), some (.int a), some (.ref o), some (.int (k : Int)), some (.ref p), v1] ∧ PlAt n K H3 p (.ok S) ∧ wk n a (u, v) k L none = wk n a (u, v) k (L - i) S) ⟨Same.refl _, p0, none, none, rfl, tup_of gp0, rfl⟩ ?_ ?_
    · rintro i σ H3 hi ⟨s3, p, S, v1, rfl, hP, hw⟩
      obtain ⟨j, hj⟩ : ∃ j : Nat, L - i = j + 1 := ⟨L - i - 1, by omega⟩
      rw [hj, wk_succ] at hw
      have ej : (L : Int) - 1 + (i : Int) * -1 = (j : Int) := by omega
      first | refine sigN [some (.int n), some (.int a), some (.ref o), some (.int (k : Int)), some (.ref p), some (.int (j : Int))] (by rw [ej]; rfl) ?_ | refine sig [some (.int n), some (.int a), some (.ref o), some (.int (k : Int)), some (.ref p), some (.int (j : Int))] (by rw [ej]; rfl) ?_
      refine ⟨_, rfl, _, rfl, _, rfl, n, a, p, S, rfl, hn, hB, hA, h2, hP, fun H4 p1 s4 hP1 => ?_⟩
      first | refine sigN [some (.int (n)), some (.int (a)), some (.ref o), some (.int ((k : Int))), some (.ref p1), some (.int ((j : Int)))] (by rfl) ?_ | refine sig [some (.int (n)), some (.int (a)), some (.ref o), some (.int ((k : Int))), some (.ref p1), some (.int ((j : Int)))] (by rfl) ?_
      have sA : Same H H4 := s1.trans (s2.trans (s3.trans s4))
      unfold K45M.st at hw
      obtain ⟨r1, hr1⟩ : ∃ r1, sumR n a S S = r1 := ⟨_, rfl⟩
      rw [hr1] at hP1 hw
      cases r1 with
      | br d =>
        refine ⟨_, rfl, p1, _, rfl, .inr hP1, rfl, _, rfl, ?_⟩
        refine iteN (by simp) ?_
        refine ⟨_, rfl, p1, _, rfl, .inr hP1, rfl, _, rfl, ?_⟩
        refine iteY (by simp) ?_
        refine ⟨_, rfl, q _ p1 sA ?_⟩
        rw [hw]
        exact hP1
      | ok S1 =>
        obtain ⟨xs, hxs, hlen⟩ := sum_sq_lens hP1
        refine ⟨_, rfl, p1, _, rfl, .inr hxs, rfl, _, rfl, ?_⟩
        refine iteY (by simpa using hlen) ?_
        have hb : (k : Int) / 2 ^ j % 2 ^ 1 = ((k / 2 ^ j % 2 : Nat) : Int) := by
          push_cast
          rfl
        refine ⟨_, rfl, _, rfl, (k : Int), j, rfl, rfl, (k : Int) / 2 ^ j, 1, rfl, rfl, _, rfl, ?_⟩
        rw [hb]
        by_cases hbit : k / 2 ^ j % 2 = 1
        · refine iteY (by rw [hbit]; rfl) ?_
          rw [show (k / 2 ^ j % 2 == 1) = true by rw [hbit]; rfl] at hw
          refine ⟨_, rfl, _, rfl, _, rfl, _, rfl, n, a, p1, o, S1, u, v, rfl, hn, hB, hA, h2, hP1, Same.tup sA ho, hu, hv, fun H5 p2 s5 hP2 => ?_⟩
          first | refine sigN [some (.int (n)), some (.int (a)), some (.ref o), some (.int ((k : Int))), some (.ref p2), some (.int ((j : Int)))] (by rfl) ?_ | refine sig [some (.int (n)), some (.int (a)), some (.ref o), some (.int ((k : Int))), some (.ref p2), some (.int ((j : Int)))] (by rfl) ?_
          obtain ⟨r2, hr2⟩ : ∃ r2, sumR n a S1 (some (u, v)) = r2 := ⟨_, rfl⟩
          rw [hr2] at hP2
          simp only [if_true, hr2] at hw
          cases r2 with
          | br d =>
            refine ⟨_, rfl, p2, _, rfl, .inr hP2, rfl, _, rfl, ?_⟩
            refine iteY (by simp) ?_
            refine ⟨_, rfl, q _ p2 (sA.trans s5) ?_⟩
            rw [hw]
            exact hP2
          | ok S2 =>
            obtain ⟨ys, hys, hlen2⟩ := sum_sq_lens hP2
            refine ⟨_, rfl, p2, _, rfl, .inr hys, rfl, _, rfl, ?_⟩
            refine iteN (by simpa using hlen2) ?_
            refine ⟨s3.trans (s4.trans s5), p2, S2, _, rfl, hP2, ?_⟩
            rw [hw, show L - (i + 1) = j by omega]
        · refine iteN (by rw [show k / 2 ^ j % 2 = 0 by omega]; decide) ?_
          rw [show (k / 2 ^ j % 2 == 1) = false by simpa using hbit] at hw
          refine ⟨_, rfl, p1, _, rfl, .inr hxs, rfl, _, rfl, ?_⟩
          refine iteN (by simpa using hlen) ?_
          refine ⟨s3.trans s4, p1, S1, _, rfl, hP1, ?_⟩
          rw [show L - (i + 1) = j by omega]
          exact hw
    · rintro σ H3 ⟨s3, p, S, v1, rfl, hP, hw⟩
      rw [Nat.sub_self] at hw
      refine ⟨_, rfl, _, rfl, n, p, S, rfl, hn, hB, hP, fun H4 t s4 ht => ?_⟩
      refine ⟨(by show 2 ≤ sizeLine; decide), fun r nr => ?_⟩
      have s5 := Same.new (o := .tup [.str "point", .ref t]) nr
      refine q _ r (s1.trans (s2.trans (s3.trans (s4.trans s5)))) ?_
      rw [hw]
      exact ⟨t, tup_of upd_same, Same.tup s5 ht⟩
def sp_times_mod (K : PySem.W.Frag) : Sp := fun vs H Q _ => ∃ (n : Int) (c o : Addr) (k : Nat) (a b u v : Int), vs = [.int n, .ref c, .ref o, .int (k : Int)] ∧ SqT K H c [.int a, .int b] ∧ 1 < n ∧ B 300 n ∧ B 300 a ∧ Un n 2 ∧ SqT K H o [.int u, .int v] ∧ Dg n u ∧ Dg n v ∧ B 300 (k : Int) ∧ ∀ H' t, Same H H' → RAt K H' t (wk n a (u, v) k (bl k) none) → Q (.ref t) H'
abbrev s_times_mod : Stmt := topS 9
theorem sc_times_mod : FnScope ["n", "curve", "point", "k"] ["n", "curve", "point", "k"] (defScope s_times_mod) := ⟨rfl, rfl, rfl, by decide +kernel, rfl, by decide +kernel, by decide +kernel⟩
theorem k_times_mod (T : Tx K mg) (D : Df K mg "times_mod" s_times_mod ["n", "curve", "point", "k"]) (c_walk : Kl P w K mg base 3 "walk" (sp_walk K)) : Kl P w K mg base 4 "times_mod" (sp_times_mod K) := by
  have nd := sc_times_mod.nd
  refine Kl.by_body D sc_times_mod (fun vs H Q E h => ?_) (fun f cdv A outer s H vs Q E hr h => ?_)
  · obtain ⟨_, _, _, _, _, _, _, _, rfl, _⟩ := h
    rfl
  · obtain ⟨n, c, o, k, a, b, u, v, rfl, hc, hn, hB, hA, h2, ho, hu, hv, hk, q⟩ := h
    have hu1 := hu_of hr
    refine ⟨_, (pss_one (ps_ret (pe_k c_walk  hr (by decide) (by rfl) (pa_cons (pv 0) (pa_cons (pe_ix ix_tup (pv 1) pe_int (fun _ _ => rfl)) (pa_cons (pv 2) (pa_cons (pv 3) pa_nil))))))), ?_⟩
    exact ⟨_, rfl, _, rfl, c, _, 0, _, rfl, rfl, hc, rfl, _, rfl, _, rfl, n, a, o, k, u, v, rfl, hn, hB, hA, h2, ho, hu, hv, hk, q⟩
end
end K45
set_option Elab.async false
set_option linter.all false
set_option maxRecDepth 100000
set_option maxHeartbeats 4000000
namespace K45
open PySem PySem.Spec PyProof.Rows L2 Gd QM K45M
theorem abs_nat (n : Int) : (if n < 0 then -n else n) = (n.natAbs : Int) := by
  split <;> omega
theorem fdw {i j : Int} {b : Nat} (h : 0 < j) (hb : B b j) (h0 : 0 < b) (h9 : b ≤ 9000) : CDivW i j := wide_div h hb h0 h9
section
variable {P : Program} {w : World} {K : PySem.W.Frag} {mg : Str → Option Value} {base : Heap}
/-! ### the law's common factors and inverses -/
def sp_law_common (K : PySem.W.Frag) : Sp := fun vs H Q _ => ∃ a b : Int, vs = [.int a, .int b] ∧ B 400 a ∧ B 400 b ∧ Q (.int ((Nat.gcd a.natAbs b.natAbs : Nat) : Int)) H
abbrev s__law_common : Stmt := topS 14
theorem sc__law_common : FnScope ["a", "b"] ["a", "b"] (defScope s__law_common) := ⟨rfl, rfl, rfl, by decide +kernel, rfl, by decide +kernel, by decide +kernel⟩
theorem k_law_common (T : Tx K mg) (D : Df K mg "_law_common" s__law_common ["a", "b"])  : Kl P w K mg base 1 "_law_common" (sp_law_common K) := by
  have nd := sc__law_common.nd
  refine Kl.by_body D sc__law_common (fun vs H Q E h => ?_) (fun f cdv A outer s H vs Q E hr h => ?_)
  · obtain ⟨_, _, rfl, _⟩ := h
    rfl
  · obtain ⟨a, b, rfl, ha, hb, q⟩ := h
    have hu1 := hu_of hr
    refine ⟨_, (pss_cons (ps_par (i := 0) (j := 1) (by rfl) nd rfl rfl (by decide) rfl rfl (pa_cons (pe_callB call_abs (by rfl) T.abs (by decide +kernel) (pa_cons (pv 0) pa_nil)) (pa_cons (pe_callB call_abs (by rfl) T.abs (by decide +kernel) (pa_cons (pv 1) pa_nil)) pa_nil)) (by rfl))
      (pss_cons (ps_while PassesOwn.never (pt_cmpR op_ne (pv 1) pe_int (nomark _)) (pss_one (ps_par (i := 0) (j := 1) (by rfl) nd rfl rfl (by decide) rfl rfl (pa_cons (pv 1) (pa_cons (pe_op op_sub (pv 0) (pe_op op_mulW (pe_op op_fdivW (pv 0) (pv 1)) (pv 1))) pa_nil)) (by rfl))))
      (pss_one (ps_ret (pv 0))))), ?_⟩
    refine ⟨_, rfl, a, rfl, _, rfl, b, rfl, _, _, rfl, ?_⟩
    rw [abs_nat, abs_nat]
    first | refine sigN [some (.int ((a.natAbs : Int))), some (.int ((b.natAbs : Int)))] (by rfl) ?_ | refine sig [some (.int ((a.natAbs : Int))), some (.int ((b.natAbs : Int)))] (by rfl) ?_
    have na : B 400 (a.natAbs : Int) := by
      unfold Gd.B at *
      omega
    have nb : B 400 (b.natAbs : Int) := by
      unfold Gd.B at *
      omega
    refine while_by (fun σ H2 => ∃ x y : Nat, σ = [some (.int (x : Int)), some (.int (y : Int))] ∧ H2 = H ∧ Nat.gcd x y = Nat.gcd a.natAbs b.natAbs ∧ B 400 (x : Int) ∧ B 400 (y : Int))
      (fun σ _ => match σ with | [_, some (.int y)] => y.natAbs | _ => 0) ⟨_, _, rfl, rfl, rfl, na, nb⟩ ?_ ?_
    · rintro σ H2 ⟨x, y, rfl, rfl, h3, h4, h5⟩
      refine ⟨_, rfl, rfl, _, rfl, ?_⟩
      rw [dec_int]
      by_cases h0 : y = 0
      · subst h0
        refine iteN (by simp) ?_
        refine ⟨_, rfl, ?_⟩
        rw [← h3, Nat.gcd_zero_right] at q
        exact q
      · refine iteY (by simp; omega) ?_
        have e : (x : Int) - (x : Int) / (y : Int) * (y : Int) = ((x % y : Nat) : Int) := by
          rw [Int.natCast_emod, Int.emod_def, Int.mul_comm]
        have d1 : B 400 ((x : Int) / (y : Int)) := by
          have h1 := Int.ediv_nonneg (show (0 : Int) ≤ x by omega) (show (0 : Int) ≤ y by omega)
          have h2 := Int.ediv_le_self (y : Int) (show (0 : Int) ≤ x by omega)
          generalize (x : Int) / (y : Int) = qq at h1 h2 ⊢
          unfold Gd.B at *
          omega
        refine ⟨_, rfl, _, rfl, _, rfl, _, rfl, x, y, rfl, rfl, fdw (by omega) h5 (by decide) (by decide), _, rfl, _, _, rfl, rfl, d1.mulW h5 (by decide), _, _, rfl, rfl, _, _, rfl, ?_⟩
        have hlt : x % y < y := Nat.mod_lt _ (by omega)
        refine ⟨⟨y, x % y, by rw [← e]; rfl, rfl, ?_, h5, ?_⟩, ?_⟩
        · rw [← h3, Nat.gcd_comm y, ← Nat.gcd_rec, Nat.gcd_comm]
        · unfold Gd.B at *
          omega
        · show ((x : Int) - (x : Int) / (y : Int) * (y : Int)).natAbs < (y : Int).natAbs
          rw [e]
          omega
    · rintro σ H2 Q1 Q2 i ⟨v, hv, hs, k, e, z⟩
      exact ⟨v, hv, hs, k, e, i _ _ z⟩
def sp_law_inverse (K : PySem.W.Frag) : Sp := fun vs H Q _ => ∃ a p : Int, vs = [.int a, .int p] ∧ 1 < p ∧ B 300 p ∧ Nat.gcd a.natAbs p.natAbs = 1 ∧ ∀ H' r, Same H H' → Inv p a r → Q (.int r) H'
abbrev s__law_inverse : Stmt := topS 15
theorem sc__law_inverse : FnScope ["a", "p", "left", "right", "low", "high", "part"] ["a", "p"] (defScope s__law_inverse) := ⟨rfl, rfl, rfl, by decide +kernel, rfl, by decide +kernel, by decide +kernel⟩
theorem k_law_inverse (T : Tx K mg) (D : Df K mg "_law_inverse" s__law_inverse ["a", "p"])  : Kl P w K mg base 1 "_law_inverse" (sp_law_inverse K) := by
  have nd := sc__law_inverse.nd
  refine Kl.by_body D sc__law_inverse (fun vs H Q E h => ?_) (fun f cdv A outer s H vs Q E hr h => ?_)
  · obtain ⟨_, _, rfl, _⟩ := h
    rfl
  · obtain ⟨a, p, rfl, hp, hB, hg, q⟩ := h
    have hu1 := hu_of hr
    refine ⟨_, (pss_cons (ps_asg (pe_tup (pa_cons (pv 1) (pa_cons (pe_op op_mod (pe_callTy call_intI (by rfl) T.int (by decide +kernel) (pa_cons (pv 0) pa_nil)) (pv 1)) (pa_cons pe_int (pa_cons pe_int pa_nil))))) (pg_tup rfl (pgs_cons (pg_name (i := 2) nd rfl (by first | exact Or.inl rfl | exact Or.inr rfl)) (pgs_cons (pg_name (i := 3) nd rfl (by first | exact Or.inl rfl | exact Or.inr rfl)) (pgs_cons (pg_name (i := 4) nd rfl (by first | exact Or.inl rfl | exact Or.inr rfl)) (pgs_cons (pg_name (i := 5) nd rfl (by first | exact Or.inl rfl | exact Or.inr rfl)) pgs_nil))))))
      (pss_cons (ps_while PassesOwn.never (pt_cmpR op_gt (pv 3) pe_int (nomark _)) (pss_cons (ps_set (i := 6) nd rfl (by first | exact Or.inl rfl | exact Or.inr rfl) (pe_op op_fdivW (pv 2) (pv 3)))
      (pss_cons (ps_par (i := 2) (j := 3) (by rfl) nd rfl rfl (by decide) rfl rfl (pa_cons (pv 3) (pa_cons (pe_op op_sub (pv 2) (pe_op op_mulW (pv 6) (pv 3))) pa_nil)) (by rfl))
      (pss_one (ps_par (i := 4) (j := 5) (by rfl) nd rfl rfl (by decide) rfl rfl (pa_cons (pv 5) (pa_cons (pe_op op_sub (pv 4) (pe_op op_mulW (pv 6) (pv 5))) pa_nil)) (by rfl))))))
      (pss_one (ps_ret (pe_op op_mod (pe_callTy call_intI (by rfl) T.int (by decide +kernel) (pa_cons (pv 5) pa_nil)) (pv 1)))))), ?_⟩
    have hp0 : 0 < p := by omega
    refine ⟨_, rfl, _, rfl, _, rfl, _, rfl, _, _, rfl, rfl, hp0, (by show 4 ≤ sizeLine; decide), fun t0 nt0 => ?_⟩
    have s1 := Same.new (H := H) (p := t0) (o := .tup [.int p, .int (a % p), .int 0, .int 1]) nt0
    have g1 : upd H t0 (.tup [.int p, .int (a % p), .int 0, .int 1]) t0 = some (.tup [.int p, .int (a % p), .int 0, .int 1]) := upd_same
    generalize upd H t0 (.tup [.int p, .int (a % p), .int 0, .int 1]) = H1 at s1 g1 ⊢
    refine ⟨t0, _, rfl, tup_of g1, rfl, _, _, rfl, _, _, rfl, _, _, rfl, _, _, rfl, rfl, ?_⟩
    first | refine sigN [some (.int (a)), some (.int (p)), some (.int (p)), some (.int (a % p)), some (.int (0)), some (.int (1)), none] (by rfl) ?_ | refine sig [some (.int (a)), some (.int (p)), some (.int (p)), some (.int (a % p)), some (.int (0)), some (.int (1)), none] (by rfl) ?_
    have one : 0 < a % p := by
      have h1 := Int.emod_nonneg a (show p ≠ 0 by omega)
      rcases Int.lt_or_eq_of_le h1 with z | z
      · exact z
      · exfalso
        have h2 : p ∣ a := Int.dvd_of_emod_eq_zero z.symm
        have h3 : p.natAbs ∣ a.natAbs := Int.natAbs_dvd_natAbs.mpr h2
        rw [Nat.gcd_eq_right h3] at hg
        omega
    refine while_by (fun σ H2 => H2 = H1 ∧ ∃ (high low above below : Int) (v1 : Option V), σ = [some (.int a), some (.int p), some (.int high), some (.int low), some (.int above), some (.int below), v1] ∧ Eu p a high low above below ∧ 0 < low)
      (fun σ _ => match σ with | [_, _, _, some (.int low), _, _, _] => low.toNat | _ => 0) ⟨rfl, p, a % p, 0, 1, none, rfl, Eu.start hp0, one⟩ ?_ ?_
    · rintro σ H2 ⟨rfl, high, low, above, below, v1, rfl, eu, l0⟩
      refine ⟨_, rfl, _, _, rfl, rfl, _, rfl, ?_⟩
      by_cases hl : 1 < low
      · refine iteY (decide_eq_true hl) ?_
        have hB1 : B 300 low := B.of_le hB (by have := eu.lt; have := eu.hn; omega)
        have hB2 : B 300 high := B.of_le hB (by have := eu.hn; have := eu.h0; omega)
        obtain ⟨z1, z2⟩ := eu.small (by omega)
        have qB : B 300 (high / low) := by
          refine B.of_le hB ?_
          have hp := eu.h0
          have h1 := Int.ediv_nonneg (show 0 ≤ high by omega) (show 0 ≤ low by omega)
          have h2 := Int.ediv_le_self low (show 0 ≤ high by omega)
          have := eu.hn
          generalize high / low = qq at h1 h2 ⊢
          omega
        have em : high - high / low * low = high % low := by
          rw [Int.emod_def, Int.mul_comm]
        refine ⟨_, rfl, _, rfl, _, _, rfl, rfl, fdw l0 hB1 (by decide) (by decide), ?_⟩
        first | refine sigN [some (.int (a)), some (.int (p)), some (.int (high)), some (.int (low)), some (.int (above)), some (.int (below)), some (.int (high / low))] (by rfl) ?_ | refine sig [some (.int (a)), some (.int (p)), some (.int (high)), some (.int (low)), some (.int (above)), some (.int (below)), some (.int (high / low))] (by rfl) ?_
        refine ⟨_, rfl, _, rfl, _, rfl, _, rfl, _, _, rfl, rfl, qB.mulW hB1 (by decide), _, _, rfl, rfl, _, _, rfl, ?_⟩
        refine ⟨_, rfl, _, rfl, _, rfl, _, rfl, _, _, rfl, rfl, qB.mulW (B.of_le hB z2) (by decide), _, _, rfl, rfl, _, _, rfl, ?_⟩
        have st := eu.step (by omega)
        refine ⟨⟨rfl, low, high % low, below, above - high / low * below, _, by rw [← em]; rfl, st.1, ?_⟩, ?_⟩
        · have := eu.rest hg hl
          have := st.1.l0
          omega
        · show (high - high / low * low).toNat < low.toNat
          rw [em]
          have := st.2
          have := st.1.l0
          omega
      · refine iteN (by simpa using hl) ?_
        obtain rfl : low = 1 := by omega
        exact ⟨_, rfl, _, rfl, _, rfl, _, _, rfl, rfl, hp0, q _ _ s1 (eu.inv1 hp0)⟩
    · rintro σ H2 Q1 Q2 i ⟨v, hv, x, y, e1, e2, b, e3, z⟩
      exact ⟨v, hv, x, y, e1, e2, b, e3, i _ _ z⟩
/-! ### the law's sums -/
def sp_law_walk_sum (K : PySem.W.Frag) : Sp := fun vs H Q _ => ∃ (n a b : Int) (c p o : Addr) (S S2 : Pt), vs = [.int n, .ref c, .ref p, .ref o] ∧ SqT K H c [.int a, .int b] ∧ 1 < n ∧ B 300 n ∧ B 300 a ∧ SqT K H p (ptL S) ∧ SqT K H o (ptL S2) ∧ PtOk n S ∧ PtOk n S2 ∧ ∀ H' t, Same H H' → RAt K H' t (sumR n a S S2) → Q (.ref t) H'
abbrev s__law_walk_sum : Stmt := topS 16
theorem sc__law_walk_sum : FnScope ["n", "curve", "one", "two", "x", "y", "upper", "lower", "part", "k", "far"] ["n", "curve", "one", "two"] (defScope s__law_walk_sum) := ⟨rfl, rfl, rfl, by decide +kernel, rfl, by decide +kernel, by decide +kernel⟩
theorem k_law_walk_sum (T : Tx K mg) (D : Df K mg "_law_walk_sum" s__law_walk_sum ["n", "curve", "one", "two"]) (c_law_common : Kl P w K mg base 1 "_law_common" (sp_law_common K)) (c_law_inverse : Kl P w K mg base 1 "_law_inverse" (sp_law_inverse K)) : Kl P w K mg base 2 "_law_walk_sum" (sp_law_walk_sum K) := by
  have nd := sc__law_walk_sum.nd
  refine Kl.by_body D sc__law_walk_sum (fun vs H Q E h => ?_) (fun f cdv A outer s H vs Q E hr h => ?_)
  · obtain ⟨_, _, _, _, _, _, _, _, rfl, _⟩ := h
    rfl
  · obtain ⟨n, a, b, c, p, o, S, S2, rfl, hc, hn, hB, hA, hp, ho, okS, okS2, q⟩ := h
    have hu1 := hu_of hr
    refine ⟨_, (pss_cons (ps_if (PW.pt (pw_or (pt_cmpR (op_eqD hr.units) (pv 2) (pe_tup pa_nil) (nomark _)) (pw_or1 (pt_cmpR (op_eqD hr.units) (pv 3) (pe_tup pa_nil) (nomark _))))) (pss_one (ps_ret (pe_tup (pa_cons pe_str (pa_cons (pe_ifExp (pt_cmpR (op_eqD hr.units) (pv 2) (pe_tup pa_nil) (nomark _)) (pv 3) (pv 2)) pa_nil))))) pss_nil)
      (pss_cons (ps_asg (pv 2) (pg_tup rfl (pgs_cons (pg_name (i := 4) nd rfl (by first | exact Or.inl rfl | exact Or.inr rfl)) (pgs_cons (pg_name (i := 5) nd rfl (by first | exact Or.inl rfl | exact Or.inr rfl)) pgs_nil))))
      (C8.pss_cut (ps_if (pt_cmpR op_eq (pv 4) (pe_ix ix_tup (pv 3) pe_int (fun _ _ => rfl)) (nomark _)) (pss_cons (ps_if (pt_cmpR op_eq (pe_op op_mod (pe_callTy call_intI (by rfl) T.int (by decide +kernel) (pa_cons (pe_op op_add (pv 5) (pe_ix ix_tup (pv 3) pe_int (fun _ _ => rfl))) pa_nil)) (pv 0)) pe_int (nomark _)) (pss_one (ps_ret (pe_tup (pa_cons pe_str (pa_cons (pe_tup pa_nil) pa_nil))))) pss_nil)
      (pss_cons (ps_if (pt_cmpR op_ne (pv 5) (pe_ix ix_tup (pv 3) pe_int (fun _ _ => rfl)) (nomark _)) (pss_one (ps_ret (pe_tup (pa_cons pe_str (pa_cons pe_non pa_nil))))) pss_nil)
      (pss_one (ps_par (i := 6) (j := 7) (by rfl) nd rfl rfl (by decide) rfl rfl (pa_cons (pe_op op_add (pe_op op_mulW (pe_op op_mul pe_int (pv 4)) (pv 4)) (pe_ix ix_tup (pv 1) pe_int (fun _ _ => rfl))) (pa_cons (pe_op op_mul pe_int (pv 5)) pa_nil)) (by rfl))))) (pss_one (ps_par (i := 6) (j := 7) (by rfl) nd rfl rfl (by decide) rfl rfl (pa_cons (pe_op op_sub (pe_ix ix_tup (pv 3) pe_int (fun _ _ => rfl)) (pv 5)) (pa_cons (pe_op op_sub (pe_ix ix_tup (pv 3) pe_int (fun _ _ => rfl)) (pv 4)) pa_nil)) (by rfl))))
      (pss_cons (ps_set (i := 8) nd rfl (by first | exact Or.inl rfl | exact Or.inr rfl) (pe_k c_law_common  hr (by decide) (by rfl) (pa_cons (pv 7) (pa_cons (pv 0) pa_nil))))
      (pss_cons (ps_if (pt_cmpR op_ne (pv 8) pe_int (nomark _)) (pss_one (ps_ret (pe_tup (pa_cons pe_str (pa_cons (pv 8) pa_nil))))) pss_nil)
      (pss_cons (ps_set (i := 9) nd rfl (by first | exact Or.inl rfl | exact Or.inr rfl) (pe_op op_mulW (pv 6) (pe_k c_law_inverse  hr (by decide) (by rfl) (pa_cons (pv 7) (pa_cons (pv 0) pa_nil)))))
      (pss_cons (ps_set (i := 10) nd rfl (by first | exact Or.inl rfl | exact Or.inr rfl) (pe_op op_mod (pe_callTy call_intI (by rfl) T.int (by decide +kernel) (pa_cons (pe_op op_sub (pe_op op_sub (pe_op op_mulW (pv 9) (pv 9)) (pv 4)) (pe_ix ix_tup (pv 3) pe_int (fun _ _ => rfl))) pa_nil)) (pv 0)))
      (pss_one (ps_ret (pe_tup (pa_cons pe_str (pa_cons (pe_tup (pa_cons (pv 10) (pa_cons (pe_op op_mod (pe_callTy call_intI (by rfl) T.int (by decide +kernel) (pa_cons (pe_op op_sub (pe_op op_mulW (pv 9) (pe_op op_sub (pv 4) (pv 10))) (pv 5)) pa_nil)) (pv 0)) pa_nil))) pa_nil)))))))))))), ?_⟩
    have hn0 : 0 < n := by omega
    have dB : ∀ {u : Int}, Dg n u → B 300 u := fun h => B.of_le hB (by unfold Dg at h; omega)
    refine ⟨_, rfl, (by show 0 ≤ sizeLine; decide), fun e ne => ?_⟩
    have s1 := Same.new (H := H) (p := e) (o := .tup []) ne
    have ge : upd H e (.tup []) e = some (.tup []) := upd_same
    generalize upd H e (.tup []) = H1 at s1 ge ⊢
    have hc1 := Same.tup s1 hc
    have hp1 := Same.tup s1 hp
    have ho1 := Same.tup s1 ho
    cases S with
    | none =>
      refine ⟨.tuple [], .tuple [], dp_pt hp1, dp0 (tup_of ge), rfl, rfl, _, rfl, iteY eq00 ?_⟩
      refine ⟨_, rfl, (by show 0 ≤ sizeLine; decide), fun e2 ne2 => ?_⟩
      have s2 := Same.new (H := H1) (p := e2) (o := .tup []) ne2
      have ge2 : upd H1 e2 (.tup []) e2 = some (.tup []) := upd_same
      generalize upd H1 e2 (.tup []) = H2 at s2 ge2 ⊢
      refine ⟨.tuple [], .tuple [], dp_pt (Same.tup s2 hp1), dp0 (tup_of ge2), rfl, rfl, _, rfl, iteY eq00 ?_⟩
      refine ⟨_, rfl, (by show 2 ≤ sizeLine; decide), fun r nr => ?_⟩
      have s3 := Same.new (o := .tup [.str "point", .ref o]) nr
      exact q _ r (s1.trans (s2.trans s3)) ⟨o, tup_of upd_same, Same.tup s3 (Same.tup s2 ho1)⟩
    | some S =>
      obtain ⟨x, y⟩ := S
      refine ⟨.tuple [.int x, .int y], .tuple [], dp2 hp1, dp0 (tup_of ge), rfl, rfl, _, rfl, iteN (by rw [eq20]; decide) ?_⟩
      refine ⟨_, rfl, (by show 0 ≤ sizeLine; decide), fun e2 ne2 => ?_⟩
      have s2 := Same.new (H := H1) (p := e2) (o := .tup []) ne2
      have ge2 : upd H1 e2 (.tup []) e2 = some (.tup []) := upd_same
      generalize upd H1 e2 (.tup []) = H2 at s2 ge2 ⊢
      cases S2 with
      | none =>
        refine ⟨.tuple [], .tuple [], dp_pt (Same.tup s2 ho1), dp0 (tup_of ge2), rfl, rfl, _, rfl, iteY eq00 ?_⟩
        refine ⟨_, rfl, (by show 0 ≤ sizeLine; decide), fun e3 ne3 => ?_⟩
        have s3 := Same.new (H := H2) (p := e3) (o := .tup []) ne3
        have ge3 : upd H2 e3 (.tup []) e3 = some (.tup []) := upd_same
        generalize upd H2 e3 (.tup []) = H3 at s3 ge3 ⊢
        refine ⟨.tuple [.int x, .int y], .tuple [], dp2 (Same.tup s3 (Same.tup s2 hp1)), dp0 (tup_of ge3), rfl, rfl, _, rfl, iteN (by rw [eq20]; decide) ?_⟩
        refine ⟨_, rfl, (by show 2 ≤ sizeLine; decide), fun r nr => ?_⟩
        have s4 := Same.new (o := .tup [.str "point", .ref p]) nr
        exact q _ r (s1.trans (s2.trans (s3.trans s4))) ⟨p, tup_of upd_same, Same.tup s4 (Same.tup s3 (Same.tup s2 hp1))⟩
      | some S2 =>
        obtain ⟨z, w⟩ := S2
        replace hp1 : SqT K H2 p [.int x, .int y] := Same.tup s2 hp1
        replace ho1 : SqT K H2 o [.int z, .int w] := Same.tup s2 ho1
        replace hc1 := Same.tup s2 hc1
        have sA := s1.trans s2
        have xB := dB okS.1
        have yB := dB okS.2
        have zB := dB okS2.1
        have wB := dB okS2.2
        refine ⟨.tuple [.int z, .int w], .tuple [], dp2 ho1, dp0 (tup_of ge2), rfl, rfl, _, rfl, iteN (by rw [eq20]; decide) ?_⟩
        refine ⟨_, rfl, p, _, rfl, hp1, rfl, _, _, rfl, _, _, rfl, rfl, ?_⟩
        first | refine sigN [some (.int (n)), some (.ref c), some (.ref p), some (.ref o), some (.int (x)), some (.int (y)), none, none, none, none, none] (by rfl) ?_ | refine sig [some (.int (n)), some (.ref c), some (.ref p), some (.ref o), some (.int (x)), some (.int (y)), none, none, none, none, none] (by rfl) ?_
        have l3 : B 2 (3 : Int) := B.lit (by decide)
        refine ⟨fun σ' H' => Same H2 H' ∧ ∃ upper lower : Int, σ' = [some (.int n), some (.ref c), some (.ref p), some (.ref o), some (.int x), some (.int y), some (.int upper), some (.int lower), none, none, none] ∧ B 700 upper ∧ B 310 lower ∧ sumR n a (some (x, y)) (some (z, w)) = dv n x y z upper lower, ?_, ?_⟩
        · refine ⟨_, rfl, _, rfl, o, _, 0, _, rfl, rfl, ho1, rfl, rfl, _, rfl, ?_⟩
          rw [dec_int]
          by_cases hx : x = z
          · refine iteY (by simpa using hx) ?_
            refine ⟨_, rfl, _, rfl, o, _, 1, _, rfl, rfl, ho1, rfl, _, _, rfl, rfl, _, rfl, _, rfl, _, _, rfl, rfl, hn0, rfl, _, rfl, ?_⟩
            rw [dec_int]
            by_cases hop : (y + w) % n = 0
            · refine iteY (by simpa using hop) ?_
              refine ⟨(by show 0 ≤ sizeLine; decide), fun e3 ne3 => ?_⟩
              have s3 := Same.new (H := H2) (p := e3) (o := .tup []) ne3
              have ge3 : upd H2 e3 (.tup []) e3 = some (.tup []) := upd_same
              generalize upd H2 e3 (.tup []) = H3 at s3 ge3 ⊢
              refine ⟨(by show 2 ≤ sizeLine; decide), fun r nr => ?_⟩
              have s4 := Same.new (o := .tup [.str "point", .ref e3]) nr
              refine q _ r (sA.trans (s3.trans s4)) ?_
              rw [sumR_ss, if_pos hx, if_pos hop]
              exact ⟨e3, tup_of upd_same, Same.tup s4 (tup_of ge3)⟩
            refine iteN (by simpa using hop) ?_
            refine ⟨_, rfl, _, rfl, o, _, 1, _, rfl, rfl, ho1, rfl, rfl, _, rfl, ?_⟩
            rw [dec_int]
            by_cases hy : y = w
            · refine iteN (by simpa using hy) ?_
              refine ⟨_, rfl, _, _, rfl, rfl, (Or.inl ⟨by decide, by decide⟩), _, rfl, _, _, rfl, rfl, (l3.mul xB).mulW xB (by decide), _, rfl, c, _, 0, _, rfl, rfl, hc1, rfl, _, _, rfl, rfl, ?_⟩
              refine ⟨_, rfl, _, _, rfl, rfl, (Or.inl ⟨by decide, by decide⟩), _, _, rfl, ?_⟩
              refine ⟨Same.refl _, 3 * x * x + a, 2 * y, rfl, ((((l3.mul xB).mul xB).add hA).up (by decide)), ((B.lit (n := 2) (by decide)).mul yB).up (by decide), ?_⟩
              rw [sumR_ss, if_pos hx, if_neg hop, if_neg (by simpa using hy)]
            · refine iteY (by simpa using hy) ?_
              refine ⟨(by show 2 ≤ sizeLine; decide), fun r nr => ?_⟩
              refine q _ r (sA.trans (Same.new nr)) ?_
              rw [sumR_ss, if_pos hx, if_neg hop, if_pos hy]
              exact tup_of upd_same
          · refine iteN (by simpa using hx) ?_
            refine ⟨_, rfl, o, _, 1, _, rfl, rfl, ho1, rfl, _, rfl, _, _, rfl, rfl, _, rfl, o, _, 0, _, rfl, rfl, ho1, rfl, _, rfl, _, _, rfl, rfl, _, _, rfl, ?_⟩
            refine ⟨Same.refl _, w - y, z - x, rfl, (wB.sub yB).up (by decide), (zB.sub xB).up (by decide), ?_⟩
            rw [sumR_ss, if_neg hx]
        rintro σ' H3 ⟨s3, upper, lower, rfl, uB, lB, hs⟩
        rw [hs] at q
        replace hp1 := Same.tup s3 hp1
        replace ho1 := Same.tup s3 ho1
        refine ⟨_, rfl, _, rfl, lower, n, rfl, lB.up (by decide), hB.up (by decide), ?_⟩
        obtain ⟨g, hg⟩ : ∃ g : Nat, Nat.gcd lower.natAbs n.natAbs = g := ⟨_, rfl⟩
        have hg' : Int.gcd lower n = g := hg
        first | refine sigN [some (.int (n)), some (.ref c), some (.ref p), some (.ref o), some (.int (x)), some (.int (y)), some (.int (upper)), some (.int (lower)), some (.int (((Nat.gcd lower.natAbs n.natAbs : Nat) : Int))), none, none] (by rfl) ?_ | refine sig [some (.int (n)), some (.ref c), some (.ref p), some (.ref o), some (.int (x)), some (.int (y)), some (.int (upper)), some (.int (lower)), some (.int (((Nat.gcd lower.natAbs n.natAbs : Nat) : Int))), none, none] (by rfl) ?_
        rw [hg]
        refine ⟨_, rfl, rfl, _, rfl, ?_⟩
        rw [dec_int]
        unfold dv at q
        rw [hg'] at q
        by_cases h1 : g = 1
        · refine iteN (by rw [h1]; decide) ?_
          rw [if_pos h1] at q
          refine ⟨_, rfl, _, rfl, _, rfl, lower, n, rfl, hn, hB, hg.trans h1, fun H4 t s4 hi => ?_⟩
          replace ho1 := Same.tup s4 ho1
          rw [iv_eq hi] at q
          have tB := dB hi.1
          refine ⟨_, _, rfl, rfl, uB.mulW tB (by decide), ?_⟩
          first | refine sigN [some (.int (n)), some (.ref c), some (.ref p), some (.ref o), some (.int (x)), some (.int (y)), some (.int (upper)), some (.int (lower)), some (.int ((g : Int))), some (.int (upper * t)), none] (by rfl) ?_ | refine sig [some (.int (n)), some (.ref c), some (.ref p), some (.ref o), some (.int (x)), some (.int (y)), some (.int (upper)), some (.int (lower)), some (.int ((g : Int))), some (.int (upper * t)), none] (by rfl) ?_
          have kB := uB.mul tB
          obtain ⟨k, hk⟩ : ∃ k, upper * t = k := ⟨_, rfl⟩
          rw [hk] at kB q ⊢
          refine ⟨_, rfl, _, rfl, _, _, rfl, rfl, kB.mulW kB (by decide), _, rfl, _, _, rfl, rfl, _, rfl, o, _, 0, _, rfl, rfl, ho1, rfl, _, _, rfl, rfl, _, rfl, _, rfl, _, _, rfl, rfl, hn0, ?_⟩
          first | refine sigN [some (.int (n)), some (.ref c), some (.ref p), some (.ref o), some (.int (x)), some (.int (y)), some (.int (upper)), some (.int (lower)), some (.int ((g : Int))), some (.int (k)), some (.int ((k * k - x - z) % n))] (by rfl) ?_ | refine sig [some (.int (n)), some (.ref c), some (.ref p), some (.ref o), some (.int (x)), some (.int (y)), some (.int (upper)), some (.int (lower)), some (.int ((g : Int))), some (.int (k)), some (.int ((k * k - x - z) % n))] (by rfl) ?_
          have fB : B 300 ((k * k - x - z) % n) := dB (Dg.mod hn0)
          refine ⟨_, rfl, _, rfl, _, rfl, _, rfl, _, _, rfl, rfl, _, _, rfl, rfl, kB.mulW (xB.sub fB) (by decide), _, rfl, _, _, rfl, rfl, _, rfl, _, rfl, _, _, rfl, rfl, hn0, (by show 2 ≤ sizeLine; decide), fun t2 nt2 => ?_⟩
          have s5 := Same.new (H := H4) (p := t2) (o := .tup [.int ((k * k - x - z) % n), .int ((k * (x - (k * k - x - z) % n) - y) % n)]) nt2
          have g5 : upd H4 t2 (.tup [.int ((k * k - x - z) % n), .int ((k * (x - (k * k - x - z) % n) - y) % n)]) t2 = some (.tup [.int ((k * k - x - z) % n), .int ((k * (x - (k * k - x - z) % n) - y) % n)]) := upd_same
          generalize upd H4 t2 (.tup [.int ((k * k - x - z) % n), .int ((k * (x - (k * k - x - z) % n) - y) % n)]) = H5 at s5 g5 ⊢
          refine ⟨(by show 2 ≤ sizeLine; decide), fun r nr => ?_⟩
          have s6 := Same.new (o := .tup [.str "point", .ref t2]) nr
          exact q _ r (sA.trans (s3.trans (s4.trans (s5.trans s6)))) ⟨t2, tup_of upd_same, Same.tup s6 (tup_of g5)⟩
        · refine iteY (by simp; omega) ?_
          rw [if_neg h1] at q
          refine ⟨_, rfl, (by show 2 ≤ sizeLine; decide), fun r nr => ?_⟩
          exact q _ r (sA.trans (s3.trans (Same.new nr))) (tup_of upd_same)
theorem bl_of {k j : Nat} (h0 : 2 ^ j ≤ k) (h1 : k < 2 ^ (j + 1)) : bl k = j + 1 := by
  have k0 : k ≠ 0 := by
    have := Nat.two_pow_pos j
    omega
  unfold bl
  rw [if_neg k0]
  congr 1
  exact (Nat.log2_eq_iff k0).mpr ⟨h0, h1⟩
def sp_law_walk (K : PySem.W.Frag) : Sp := fun vs H Q _ => ∃ (n : Int) (c o : Addr) (k : Nat) (a b u v : Int), vs = [.int n, .ref c, .ref o, .int (k : Int)] ∧ SqT K H c [.int a, .int b] ∧ 1 < n ∧ B 300 n ∧ B 300 a ∧ SqT K H o [.int u, .int v] ∧ Dg n u ∧ Dg n v ∧ B 300 (k : Int) ∧ ∀ H' t, Same H H' → RAt K H' t (wk n a (u, v) k (bl k) none) → Q (.ref t) H'
abbrev s__law_walk : Stmt := topS 17
theorem sc__law_walk : FnScope ["n", "curve", "point", "k", "place", "here"] ["n", "curve", "point", "k"] (defScope s__law_walk) := ⟨rfl, rfl, rfl, by decide +kernel, rfl, by decide +kernel, by decide +kernel⟩
theorem k_law_walk (T : Tx K mg) (D : Df K mg "_law_walk" s__law_walk ["n", "curve", "point", "k"]) (c_law_walk_sum : Kl P w K mg base 2 "_law_walk_sum" (sp_law_walk_sum K)) : Kl P w K mg base 3 "_law_walk" (sp_law_walk K) := by
  have nd := sc__law_walk.nd
  refine Kl.by_body D sc__law_walk (fun vs H Q E h => ?_) (fun f cdv A outer s H vs Q E hr h => ?_)
  · obtain ⟨_, _, _, _, _, _, _, _, rfl, _⟩ := h
    rfl
  · obtain ⟨n, c, o, k, a, b, u, v, rfl, hc, hn, hB, hA, ho, hu, hv, hk, q⟩ := h
    have hu1 := hu_of hr
    refine ⟨_, (pss_cons (ps_asg (pe_tup (pa_cons pe_int (pa_cons (pe_tup (pa_cons pe_str (pa_cons (pe_tup pa_nil) pa_nil))) pa_nil))) (pg_tup rfl (pgs_cons (pg_name (i := 4) nd rfl (by first | exact Or.inl rfl | exact Or.inr rfl)) (pgs_cons (pg_name (i := 5) nd rfl (by first | exact Or.inl rfl | exact Or.inr rfl)) pgs_nil))))
      (pss_cons (ps_while PassesOwn.never (pt_cmpR op_le (pe_op op_mul pe_int (pv 4)) (pv 3) (nomark _)) (pss_one (ps_set (i := 4) nd rfl (by first | exact Or.inl rfl | exact Or.inr rfl) (pe_op op_mul pe_int (pv 4)))))
      (pss_cons (ps_while PassesOwn.never (PW.pt (pw_and (pt_cmpR op_gt (pv 4) pe_int (nomark _)) (pw_and1 (pt_cmpR op_gt (pv 3) pe_int (nomark _))))) (pss_cons (ps_set (i := 5) nd rfl (by first | exact Or.inl rfl | exact Or.inr rfl) (pe_k c_law_walk_sum  hr (by decide) (by rfl) (pa_cons (pv 0) (pa_cons (pv 1) (pa_cons (pe_ix ix_tup (pv 5) pe_int (fun _ _ => rfl)) (pa_cons (pe_ix ix_tup (pv 5) pe_int (fun _ _ => rfl)) pa_nil))))))
      (pss_cons (ps_if (PW.pt (pw_and (pt_cmpR op_eq (pe_ix ix_tup (pv 5) pe_int (fun _ _ => rfl)) pe_str (nomark _)) (pw_and1 (pt_cmpR op_eq (pe_op op_mod (pe_callTy call_intI (by rfl) T.int (by decide +kernel) (pa_cons (pe_op op_fdivW (pv 3) (pv 4)) pa_nil)) pe_int) pe_int (nomark _))))) (pss_one (ps_set (i := 5) nd rfl (by first | exact Or.inl rfl | exact Or.inr rfl) (pe_k c_law_walk_sum  hr (by decide) (by rfl) (pa_cons (pv 0) (pa_cons (pv 1) (pa_cons (pe_ix ix_tup (pv 5) pe_int (fun _ _ => rfl)) (pa_cons (pv 2) pa_nil))))))) pss_nil)
      (pss_cons (ps_if (pt_cmpR op_eq (pe_ix ix_tup (pv 5) pe_int (fun _ _ => rfl)) pe_str (nomark _)) (pss_one (ps_ret (pv 5))) pss_nil)
      (pss_one (ps_set (i := 4) nd rfl (by first | exact Or.inl rfl | exact Or.inr rfl) (pe_op op_fdiv (pv 4) pe_int)))))))
      (pss_one (ps_ret (pv 5)))))), ?_⟩
    have hn0 : 0 < n := by omega
    refine ⟨(by show 0 ≤ sizeLine; decide), fun e ne => ?_⟩
    have s1 := Same.new (H := H) (p := e) (o := .tup []) ne
    have ge : upd H e (.tup []) e = some (.tup []) := upd_same
    generalize upd H e (.tup []) = H1 at s1 ge ⊢
    refine ⟨(by show 2 ≤ sizeLine; decide), fun h0 nh0 => ?_⟩
    have s2 := Same.new (H := H1) (p := h0) (o := .tup [.str "point", .ref e]) nh0
    have gh0 : upd H1 h0 (.tup [.str "point", .ref e]) h0 = some (.tup [.str "point", .ref e]) := upd_same
    generalize upd H1 h0 (.tup [.str "point", .ref e]) = H2 at s2 gh0 ⊢
    refine ⟨(by show 2 ≤ sizeLine; decide), fun t0 nt0 => ?_⟩
    have s2b := Same.new (H := H2) (p := t0) (o := .tup [.int 1, .ref h0]) nt0
    have gt0 : upd H2 t0 (.tup [.int 1, .ref h0]) t0 = some (.tup [.int 1, .ref h0]) := upd_same
    generalize upd H2 t0 (.tup [.int 1, .ref h0]) = H2b at s2b gt0 ⊢
    refine ⟨t0, _, rfl, tup_of gt0, rfl, _, _, rfl, _, _, rfl, rfl, ?_⟩
    first | refine sigN [some (.int (n)), some (.ref c), some (.ref o), some (.int ((k : Int))), some (.int (1)), some (.ref h0)] (by rfl) ?_ | refine sig [some (.int (n)), some (.ref c), some (.ref o), some (.int ((k : Int))), some (.int (1)), some (.ref h0)] (by rfl) ?_
    replace gh0 := s2b _ _ gh0
    replace s2 := s2.trans s2b
    have sA := s1.trans s2
    have k300 : k < 2 ^ 300 := by
      unfold Gd.B at hk
      omega
    refine while_by (fun σ H3 => H3 = H2b ∧ ∃ j : Nat, σ = [some (.int n), some (.ref c), some (.ref o), some (.int (k : Int)), some (.int ((2 ^ j : Nat) : Int)), some (.ref h0)] ∧ (j = 0 ∨ 2 ^ j ≤ k) ∧ j ≤ 300)
      (fun σ _ => match σ with | [_, _, _, _, some (.int p), _] => k + 1 - p.toNat | _ => 0) ⟨rfl, 0, rfl, Or.inl rfl, by decide⟩ ?_ ?_
    · rintro σ H3 ⟨rfl, j, rfl, hj, j3⟩
      refine ⟨_, rfl, _, _, rfl, rfl, (Or.inl ⟨by decide, by decide⟩), _, rfl, _, _, rfl, rfl, _, rfl, ?_⟩
      have e2 : 2 * ((2 ^ j : Nat) : Int) = ((2 ^ (j + 1) : Nat) : Int) := by
        rw [Nat.pow_succ, Nat.mul_comm]
        push_cast
        rfl
      rw [e2]
      by_cases hle : 2 ^ (j + 1) ≤ k
      · refine iteY (decide_eq_true (by exact_mod_cast hle)) ?_
        refine ⟨_, rfl, _, _, rfl, rfl, (Or.inl ⟨by decide, by decide⟩), ?_⟩
        refine ⟨⟨rfl, j + 1, by rw [← e2]; rfl, Or.inr hle, ?_⟩, ?_⟩
        · refine Nat.le_of_not_lt fun z => ?_
          have := Nat.pow_le_pow_right (show 0 < 2 by decide) (show 300 ≤ j + 1 by omega)
          omega
        · show k + 1 - (2 * ((2 ^ j : Nat) : Int)).toNat < k + 1 - (((2 ^ j : Nat) : Int)).toNat
          rw [e2]
          have := Nat.two_pow_pos j
          rw [Nat.pow_succ] at hle ⊢
          omega
      · refine iteN (fun z => hle (by exact_mod_cast of_decide_eq_true z)) ?_
        have hlt : k < 2 ^ (j + 1) := by omega
        obtain ⟨L, hL⟩ : ∃ L, bl k = L := ⟨_, rfl⟩
        rw [hL] at q
        refine while_by (fun σ H4 => Same H3 H4 ∧ ∃ (pl h : Addr) (S : Pt) (i : Nat) (d : Nat), σ = [some (.int n), some (.ref c), some (.ref o), some (.int (k : Int)), some (.int (d : Int)), some (.ref h)] ∧ RAt K H4 h (.ok S) ∧ PtOk n S ∧ wk n a (u, v) k L none = wk n a (u, v) k i S ∧ ((k = 0 ∧ i = 0) ∨ (0 < k ∧ i = 0 ∧ d = 0) ∨ (∃ j, 0 < k ∧ j ≤ 300 ∧ i = j + 1 ∧ d = 2 ^ j)))
          (fun σ _ => match σ with | [_, _, _, _, some (.int p), _] => p.toNat | _ => 0) ⟨Same.refl _, e, h0, none, L, 2 ^ j, rfl, ⟨e, tup_of gh0, tup_of (s2 _ _ ge)⟩, trivial, rfl, ?_⟩ ?_ ?_
        · rcases Nat.eq_zero_or_pos k with z | z
          · left
            refine ⟨z, ?_⟩
            rw [← hL, z]
            rfl
          · right
            right
            refine ⟨j, z, j3, ?_, rfl⟩
            rw [← hL]
            refine bl_of ?_ hlt
            rcases hj with rfl | w
            · exact z
            · exact w
        · rintro σ H4 ⟨s4, pl, h, S, i, d, rfl, ⟨s, hh, hs⟩, okS, hw, hcase⟩
          have cE := Same.tup (sA.trans s4) hc
          have oE := Same.tup (sA.trans s4) ho
          refine ⟨_, rfl, _, _, rfl, rfl, _, rfl, ?_⟩
          have done : i = 0 → Q (.ref h) H4 := by
            rintro rfl
            refine q _ h (sA.trans s4) ?_
            rw [hw]
            exact ⟨s, hh, hs⟩
          rcases hcase with ⟨k0, i0⟩ | ⟨k0, i0, d0⟩ | ⟨j, k0, j3, ij, dj⟩
          · by_cases hd : 0 < (d : Int)
            · refine iteY (decide_eq_true hd) ?_
              refine ⟨_, rfl, _, _, rfl, rfl, _, rfl, iteN (by rw [k0]; decide) ?_⟩
              exact ⟨_, rfl, done i0⟩
            · refine iteN (by simpa using hd) ?_
              exact ⟨_, rfl, done i0⟩
          · refine iteN (by rw [d0]; decide) ?_
            exact ⟨_, rfl, done i0⟩
          have dp : 0 < d := dj ▸ Nat.two_pow_pos j
          refine iteY (decide_eq_true (by omega)) ?_
          refine ⟨_, rfl, _, _, rfl, rfl, _, rfl, iteY (decide_eq_true (by omega)) ?_⟩
          rw [ij, wk_succ] at hw
          unfold K45M.st at hw
          refine ⟨_, rfl, _, rfl, _, rfl, h, _, 1, _, rfl, rfl, hh, rfl, _, rfl, h, _, 1, _, rfl, rfl, hh, rfl, ?_⟩
          refine ⟨n, a, b, c, s, s, S, S, rfl, cE, hn, hB, hA, hs, hs, okS, okS, fun H5 h1 s5 hR1 => ?_⟩
          first | refine sigN [some (.int (n)), some (.ref c), some (.ref o), some (.int ((k : Int))), some (.int ((d : Int))), some (.ref h1)] (by rfl) ?_ | refine sig [some (.int (n)), some (.ref c), some (.ref o), some (.int ((k : Int))), some (.int ((d : Int))), some (.ref h1)] (by rfl) ?_
          obtain ⟨r1, hr1⟩ : ∃ r1, sumR n a S S = r1 := ⟨_, rfl⟩
          have ok1 := sum_ok (a := a) hn0 okS okS
          rw [hr1] at hR1 hw ok1
          cases r1 with
          | br dd =>
            refine ⟨_, rfl, h1, _, 0, _, rfl, rfl, hR1, rfl, rfl, _, rfl, iteN (by decide +kernel) ?_⟩
            refine ⟨_, rfl, h1, _, 0, _, rfl, rfl, hR1, rfl, rfl, _, rfl, iteY (by decide +kernel) ?_⟩
            refine ⟨_, rfl, q _ h1 (sA.trans (s4.trans s5)) ?_⟩
            rw [hw]
            exact hR1
          | ok S1 =>
            obtain ⟨t1, hh1, ht1⟩ := hR1
            refine ⟨_, rfl, h1, _, 0, _, rfl, rfl, hh1, rfl, rfl, _, rfl, iteY (by decide +kernel) ?_⟩
            have dB : B 301 (d : Int) := by
              have := Nat.pow_lt_pow_right (show 1 < 2 by decide) (show j < 301 by omega)
              unfold Gd.B
              omega
            have hq : (k : Int) / (d : Int) % 2 = ((k / 2 ^ j % 2 : Nat) : Int) := by
              rw [dj]
              push_cast
              rfl
            refine ⟨_, rfl, _, rfl, _, _, rfl, rfl, fdw (by omega) dB (by decide) (by decide), _, rfl, _, _, rfl, rfl, (by show (0 : Int) < 2; decide), rfl, _, rfl, ?_⟩
            rw [dec_int, hq]
            have d2 : (d : Int) / 2 = ((d / 2 : Nat) : Int) := by omega
            have nxt : (k = 0 ∧ j = 0) ∨ (0 < k ∧ j = 0 ∧ d / 2 = 0) ∨ (∃ j', 0 < k ∧ j' ≤ 300 ∧ j = j' + 1 ∧ d / 2 = 2 ^ j') := by
              cases j with
              | zero =>
                right
                left
                exact ⟨k0, rfl, by rw [dj]⟩
              | succ j' =>
                right
                right
                refine ⟨j', k0, by omega, rfl, ?_⟩
                rw [dj, Nat.pow_succ]
                omega
            by_cases hbit : k / 2 ^ j % 2 = 1
            · refine iteY (by rw [hbit]; rfl) ?_
              rw [show (k / 2 ^ j % 2 == 1) = true by rw [hbit]; rfl] at hw
              refine ⟨_, rfl, _, rfl, _, rfl, h1, _, 1, _, rfl, rfl, hh1, rfl, _, rfl, ?_⟩
              refine ⟨n, a, b, c, t1, o, S1, some (u, v), rfl, Same.tup s5 cE, hn, hB, hA, ht1, Same.tup s5 oE, ok1, ⟨hu, hv⟩, fun H6 h2 s6 hR2 => ?_⟩
              first | refine sigN [some (.int (n)), some (.ref c), some (.ref o), some (.int ((k : Int))), some (.int ((d : Int))), some (.ref h2)] (by rfl) ?_ | refine sig [some (.int (n)), some (.ref c), some (.ref o), some (.int ((k : Int))), some (.int ((d : Int))), some (.ref h2)] (by rfl) ?_
              obtain ⟨r2, hr2⟩ : ∃ r2, sumR n a S1 (some (u, v)) = r2 := ⟨_, rfl⟩
              have ok2 := sum_ok (a := a) (S := some (u, v)) hn0 ok1 ⟨hu, hv⟩
              rw [hr2] at hR2 ok2
              simp only [if_true, hr2] at hw
              cases r2 with
              | br dd =>
                refine ⟨_, rfl, h2, _, 0, _, rfl, rfl, hR2, rfl, rfl, _, rfl, iteY (by decide +kernel) ?_⟩
                refine ⟨_, rfl, q _ h2 (sA.trans (s4.trans (s5.trans s6))) ?_⟩
                rw [hw]
                exact hR2
              | ok S2 =>
                obtain ⟨t2, hh2, ht2⟩ := hR2
                refine ⟨_, rfl, h2, _, 0, _, rfl, rfl, hh2, rfl, rfl, _, rfl, iteN (by decide +kernel) ?_⟩
                refine ⟨_, rfl, _, _, rfl, rfl, ⟨by decide, by decide⟩, ?_⟩
                refine ⟨⟨s4.trans (s5.trans s6), e, h2, S2, j, d / 2, by rw [← d2]; rfl, ⟨t2, hh2, ht2⟩, ok2, hw, nxt⟩, ?_⟩
                show ((d : Int) / 2).toNat < (d : Int).toNat
                omega
            · refine iteN (by rw [show k / 2 ^ j % 2 = 0 by omega]; decide) ?_
              rw [show (k / 2 ^ j % 2 == 1) = false by simpa using hbit] at hw
              refine ⟨_, rfl, h1, _, 0, _, rfl, rfl, hh1, rfl, rfl, _, rfl, iteN (by decide +kernel) ?_⟩
              refine ⟨_, rfl, _, _, rfl, rfl, ⟨by decide, by decide⟩, ?_⟩
              refine ⟨⟨s4.trans s5, e, h1, S1, j, d / 2, by rw [← d2]; rfl, ⟨t1, hh1, ht1⟩, ok1, hw, nxt⟩, ?_⟩
              show ((d : Int) / 2).toNat < (d : Int).toNat
              omega
        · rintro σ H2 Q1 Q2 i ⟨v, hv, x, y, e1, e2, c, e3, z⟩
          refine ⟨v, hv, x, y, e1, e2, c, e3, ?_⟩
          by_cases hc : c = true
          · rw [if_pos hc] at z ⊢
            obtain ⟨v, hv, x, y, e1, e2, c, e3, z⟩ := z
            exact ⟨v, hv, x, y, e1, e2, c, e3, i _ _ z⟩
          · rw [if_neg hc] at z ⊢
            exact i _ _ z
    · rintro σ H2 Q1 Q2 i ⟨v, hv, x, y, e1, e2, b, v2, hv2, x2, y2, e3, e4, c, e5, z⟩
      exact ⟨v, hv, x, y, e1, e2, b, v2, hv2, x2, y2, e3, e4, c, e5, i _ _ z⟩
end
end K45
set_option Elab.async false
set_option linter.all false
set_option maxRecDepth 100000
set_option maxHeartbeats 4000000
namespace K45
open PySem PySem.Spec PyProof.Rows L2 Gd QM
section
variable {P : Program} {w : World} {K : PySem.W.Frag} {mg : Str → Option Value} {base : Heap}
/-! ### one draw -/
def sp_law_draw (K : PySem.W.Frag) : Sp := fun vs H Q _ => ∃ (m cl : Addr) (b : Int) (n : Nat), vs = [.ref m, .int b] ∧ 0 < b ∧ b < 4294967296 ∧ n ≤ 1000000 ∧ MAt H m cl n ∧ ∀ H' r, But m H H' → MAt H' m cl (n + 1) → 0 ≤ r → r < b → Q (.int r) H'
abbrev s__law_draw : Stmt := topS 12
theorem sc__law_draw : FnScope ["m", "below", "found", "spot", "cells", "extra", "cell", "blend"] ["m", "below"] (defScope s__law_draw) := ⟨rfl, rfl, rfl, by decide +kernel, rfl, by decide +kernel, by decide +kernel⟩
theorem k_law_draw (T : Tx K mg) (D : Df K mg "_law_draw" s__law_draw ["m", "below"])  : Kl P w K mg base 1 "_law_draw" (sp_law_draw K) := by
  have nd := sc__law_draw.nd
  refine Kl.by_body D sc__law_draw (fun vs H Q E h => ?_) (fun f cdv A outer s H vs Q E hr h => ?_)
  · obtain ⟨_, _, _, _, rfl, _⟩ := h
    rfl
  · obtain ⟨m, c, b, n, rfl, hb0, hb1, hn, ⟨L, s0, cs, k, hm, hk, hc, hl⟩, q⟩ := h
    have hu1 := hu_of hr
    refine ⟨_, (pss_cons (ps_if (pt_cmpR op_gt (pe_dget hu1 (pv 0) pe_str (fun _ _ => rfl)) pe_int (nomark _)) (pss_cons (ps_set (i := 2) nd rfl (by first | exact Or.inl rfl | exact Or.inr rfl) (pe_op op_mod (pe_callTy call_intI (by rfl) T.int (by decide +kernel) (pa_cons (pe_dget hu1 (pv 0) pe_str (fun _ _ => rfl)) pa_nil)) (pv 1)))
      (pss_cons (ps_dput hu1 (pv 0) pe_str (pe_op op_fdivAny (pe_dget hu1 (pv 0) pe_str (fun _ _ => rfl)) (pv 1)) rfl)
      (pss_one (ps_ret (pv 2))))) pss_nil)
      (pss_cons (ps_set (i := 3) nd rfl (by first | exact Or.inl rfl | exact Or.inr rfl) (pe_dget hu1 (pv 0) pe_str (fun _ _ => rfl)))
      (pss_cons (ps_dput hu1 (pv 0) pe_str (pe_op op_add (pv 3) pe_int) rfl)
      (pss_cons (ps_par (i := 4) (j := 5) (by rfl) nd rfl rfl (by decide) rfl rfl (pa_cons (pe_dget hu1 (pv 0) pe_str (fun _ _ => rfl)) (pa_cons (pe_op op_add (pe_dget hu1 (pv 0) pe_str (fun _ _ => rfl)) (pe_op op_mulW (pe_op op_mul pe_int (pv 3)) (pv 3))) pa_nil)) (by rfl))
      (pss_cons (ps_set (i := 6) nd rfl (by first | exact Or.inl rfl | exact Or.inr rfl) (pe_ix ix_list (pv 4) (pe_op op_mod (pe_callTy call_intI (by rfl) T.int (by decide +kernel) (pa_cons (pv 3) pa_nil)) (pe_callB call_len_seq (by rfl) T.len (by decide +kernel) (pa_cons (pv 4) pa_nil))) (fun _ _ => rfl)))
      (pss_cons (ps_set (i := 7) nd rfl (by first | exact Or.inl rfl | exact Or.inr rfl) (pe_op op_mod (pe_callTy call_intI (by rfl) T.int (by decide +kernel) (pa_cons (pe_op op_add (pe_op op_mul (pv 6) (pe_op op_add (pe_op op_mul pe_int (pv 3)) pe_int)) (pv 5)) pa_nil)) pe_int))
      (pss_cons (ps_set (i := 7) nd rfl (by first | exact Or.inl rfl | exact Or.inr rfl) (pe_op op_mod (pe_callTy call_intI (by rfl) T.int (by decide +kernel) (pa_cons (pe_op op_add (pe_op op_add (pe_op op_mul (pv 7) (pv 7)) (pe_op op_mul pe_int (pv 3))) (pe_dget hu1 (pv 0) pe_str (fun _ _ => rfl))) pa_nil)) pe_int))
      (pss_one (ps_ret (pe_op op_mod (pe_op op_fdiv (pe_op op_mod (pe_callTy call_intI (by rfl) T.int (by decide +kernel) (pa_cons (pe_op op_add (pe_op op_mul (pv 7) pe_int) (pv 3)) pa_nil)) pe_int) pe_int) (pv 1))))))))))), ?_⟩
    have gL : DGet H m (.str "left") (some (.int L)) := m4_left (L := L) ▸ DGet.k (k := Sum.inr "left") hm
    have ncm : c ≠ m := ne_of hc hm (by intro z; cases z)
    refine ⟨_, rfl, m, _, rfl, gL, _, _, rfl, rfl, _, rfl, ite2 (fun e => ?_) (fun e => ?_)⟩
    · refine ⟨_, rfl, m, _, rfl, gL, _, rfl, _, rfl, _, _, rfl, rfl, hb0, ?_⟩
      refine ⟨_, rfl, m, _, rfl, gL, _, rfl, _, _, rfl, rfl, div_any (m := 33) (by omega) (by unfold B; omega) (by decide), _, rfl, m, _, rfl, DPut.k (k := Sum.inr "left") hm (small1000 (by show 4 ≤ 1000; decide)), ?_⟩
      rw [m4_putL]
      refine ⟨_, rfl, ?_⟩
      refine q _ _ But.upd ⟨_, s0, cs, k, upd_same, by omega, ?_, hl⟩ (Int.emod_nonneg _ (by omega)) (Int.emod_lt_of_pos _ hb0)
      rw [upd_ne ncm]
      exact hc
    · have gS : DGet H m (.str "spot") (some (.int k)) := m4_spot (n := k) ▸ DGet.k (k := Sum.inr "spot") hm
      refine ⟨_, rfl, m, _, rfl, gS, ?_⟩
      refine ⟨_, rfl, _, _, rfl, rfl, _, rfl, m, _, rfl, DPut.k (k := Sum.inr "spot") hm (small1000 (by show 4 ≤ 1000; decide)), ?_⟩
      rw [m4_putS]
      have hm2 : (upd H m (HO.dK (mk4 L s0 c (k + 1)))) m = some (.dK (mk4 L s0 c (k + 1))) := upd_same
      have hc2 : (upd H m (HO.dK (mk4 L s0 c (k + 1)))) c = some (.lst (cs.map V.int)) := by
        rw [upd_ne ncm]
        exact hc
      have bt : But m H (upd H m (HO.dK (mk4 L s0 c (k + 1)))) := But.upd
      generalize upd H m (HO.dK (mk4 L s0 c (k + 1))) = H2 at hm2 hc2 bt ⊢
      have gC : DGet H2 m (.str "cells") (some (.ref c)) := m4_cells (c := c) ▸ DGet.k (k := Sum.inr "cells") hm2
      have gE : DGet H2 m (.str "seed") (some (.int s0)) := m4_seed (s := s0) ▸ DGet.k (k := Sum.inr "seed") hm2
      have bk : B 20 (k : Int) := by
        unfold B
        omega
      refine ⟨_, rfl, m, _, rfl, gC, _, rfl, m, _, rfl, gE, _, rfl, _, _, rfl, rfl, (Or.inl ⟨by decide, by decide⟩), _, rfl, _, _, rfl, rfl, ((B.lit (n := 20) (by decide)).mul bk).mulW bk (by decide), _, _, rfl, rfl, _, _, rfl, ?_⟩
      have hlz : (0 : Int) < ((cs.map V.int).length : Int) := by
        rw [List.length_map]
        omega
      have hix : ∃ z : Int, atI (cs.map V.int) ((k : Int) % ((cs.map V.int).length : Int)) = some (.int z) := by
        rw [List.length_map]
        have h1 : k % cs.length < cs.length := Nat.mod_lt _ hl
        refine ⟨cs[k % cs.length], ?_⟩
        rw [← Int.natCast_emod]
        refine atI_nat ?_
        rw [List.getElem?_map, List.getElem?_eq_getElem h1]
        rfl
      obtain ⟨z, hz⟩ := hix
      refine ⟨_, rfl, _, rfl, _, rfl, _, rfl, c, _, rfl, .inl (.inl (.inl hc2)), _, _, rfl, rfl, hlz, c, _, _, _, rfl, rfl, .inl (.inl hc2), hz, ?_⟩
      have bk2 : B 30 (2 * (k : Int) + 3) := by
        unfold B
        omega
      refine ⟨_, rfl, _, rfl, _, _, rfl, rfl, (Or.inl ⟨by decide, by decide⟩), _, _, rfl, rfl, _, _, rfl, rfl, bk2.mulR (by decide), _, rfl, _, _, rfl, rfl, _, rfl, _, _, rfl, rfl, (by show (0 : Int) < 2147483647; decide), ?_⟩
      have be : ∀ y : Int, B 32 (y % 2147483647) := fun y => by
        have h1 := Int.emod_nonneg y (show (2147483647 : Int) ≠ 0 by decide)
        have h2 := Int.emod_lt_of_pos y (show (0 : Int) < 2147483647 by decide)
        unfold B
        omega
      refine ⟨_, rfl, _, rfl, _, _, rfl, rfl, (be _).mulR (by decide), _, rfl, _, _, rfl, rfl, (Or.inl ⟨by decide, by decide⟩), _, _, rfl, rfl, _, rfl, m, _, rfl, gE, _, _, rfl, rfl, _, rfl, _, _, rfl, rfl, (by show (0 : Int) < 2147483629; decide), ?_⟩
      refine ⟨_, rfl, _, _, rfl, rfl, (Or.inr ⟨by decide, by decide⟩), _, rfl, _, _, rfl, rfl, _, rfl, _, _, rfl, rfl, (by show (0 : Int) < 2147483647; decide), _, _, rfl, rfl, ⟨by decide, by decide⟩, _, rfl, _, _, rfl, rfl, hb0, ?_⟩
      exact q _ _ bt ⟨L, s0, cs, k + 1, hm2, by omega, hc2, hl⟩ (Int.emod_nonneg _ (by omega)) (Int.emod_lt_of_pos _ hb0)
/-! ### one of some -/
def sp_law_of (K : PySem.W.Frag) : Sp := fun vs H Q _ => ∃ (m cl a : Addr) (xs : List V) (n : Nat), vs = [.ref m, .ref a] ∧ SqL K H a xs ∧ 0 < xs.length ∧ xs.length ≤ 1000 ∧ n ≤ 1000000 ∧ MAt H m cl n ∧ ∀ H' x, But m H H' → MAt H' m cl (n + 1) → x ∈ xs → Q x H'
abbrev s__law_of : Stmt := topS 13
theorem sc__law_of : FnScope ["m", "some"] ["m", "some"] (defScope s__law_of) := ⟨rfl, rfl, rfl, by decide +kernel, rfl, by decide +kernel, by decide +kernel⟩
theorem k_law_of (T : Tx K mg) (D : Df K mg "_law_of" s__law_of ["m", "some"]) (c_law_draw : Kl P w K mg base 1 "_law_draw" (sp_law_draw K)) : Kl P w K mg base 2 "_law_of" (sp_law_of K) := by
  have nd := sc__law_of.nd
  refine Kl.by_body D sc__law_of (fun vs H Q E h => ?_) (fun f cdv A outer s H vs Q E hr h => ?_)
  · obtain ⟨_, _, _, _, _, rfl, _⟩ := h
    rfl
  · obtain ⟨m, cl, a, xs, n, rfl, hx, h0, h1, hn, hM, q⟩ := h
    have hu1 := hu_of hr
    refine ⟨_, (pss_one (ps_ret (pe_ix ix_list (pv 1) (pe_k c_law_draw  hr (by decide) (by rfl) (pa_cons (pv 0) (pa_cons (pe_callB call_len_seq (by rfl) T.len (by decide +kernel) (pa_cons (pv 1) pa_nil)) pa_nil))) (fun _ _ => rfl)))), ?_⟩
    refine ⟨.ref a, rfl, _, rfl, .ref a, rfl, a, xs, rfl, .inl hx, m, cl, _, n, rfl, by omega, by omega, hn, hM, fun H1 r b1 m1 r0 r1 => ?_⟩
    have hr1 : r.toNat < xs.length := by omega
    refine ⟨a, xs, r, xs[r.toNat], rfl, rfl, b1.seqL hM hx, ?_, q _ _ b1 m1 (List.getElem_mem hr1)⟩
    have key : atI xs ((r.toNat : Nat) : Int) = some xs[r.toNat] := atI_nat (List.getElem?_eq_getElem hr1)
    rw [show ((r.toNat : Nat) : Int) = r by omega] at key
    exact key
/-! ### between -/
def sp_law_between (K : PySem.W.Frag) : Sp := fun vs H Q _ => ∃ (m cl : Addr) (z : Int) (n : Nat), vs = [.ref m, .int z] ∧ 0 ≤ z ∧ z ≤ 2000000000 ∧ n ≤ 1000000 ∧ MAt H m cl n ∧ ∀ H' r, But m H H' → MAt H' m cl (n + 1) → -z ≤ r → r ≤ z → Q (.int r) H'
/-! ### the state of a turn -/
def sp_law_begun (K : PySem.W.Frag) : Sp := fun vs H Q _ => ∃ (a : Addr) (k : Int) (ns : List Int), vs = [.ref a, .int k] ∧ SqL K H a (ns.map V.int) ∧ ns.length ≤ 63 ∧ 0 ≤ k ∧ k ≤ 100 ∧ ∀ H' m cl, Same H H' → H m = none → H cl = none → MAt H' m cl 0 → Q (.ref m) H'
theorem cut_int {ns : List Int} (lo hi : Option Int) : ∃ ms : List Int, cutV (ns.map V.int) lo hi = ms.map V.int ∧ ms.length ≤ ns.length := by
  unfold cutV
  refine ⟨(ns.drop (HT.sIx (ns.map V.int).length 0 lo)).take (HT.sIx (ns.map V.int).length (ns.map V.int).length hi - HT.sIx (ns.map V.int).length 0 lo), ?_, ?_⟩
  · rw [List.map_take, List.map_drop]
  · rw [List.length_take, List.length_drop]
    omega
abbrev s__law_begun : Stmt := topS 11
theorem sc__law_begun : FnScope ["script", "k", "cells", "great", "cell", "begun", "left"] ["script", "k"] (defScope s__law_begun) := ⟨rfl, rfl, rfl, by decide +kernel, rfl, by decide +kernel, by decide +kernel⟩
theorem k_law_begun (T : Tx K mg) (D : Df K mg "_law_begun" s__law_begun ["script", "k"])  : Kl P w K mg base 1 "_law_begun" (sp_law_begun K) := by
  have nd := sc__law_begun.nd
  refine Kl.by_body D sc__law_begun (fun vs H Q E h => ?_) (fun f cdv A outer s H vs Q E hr h => ?_)
  · obtain ⟨_, _, _, rfl, _⟩ := h
    rfl
  · obtain ⟨a, k, ns, rfl, hx, hl, hk0, hk1, q⟩ := h
    have hu1 := hu_of hr
    refine ⟨_, (pss_cons (ps_set (i := 2) nd rfl (by first | exact Or.inl rfl | exact Or.inr rfl) (pe_op op_cat (pe_slice sl_list (pv 0) (po_some (pv 1)) po_none) (pe_slice sl_list (pv 0) po_none (po_some (pv 1)))))
      (pss_cons (ps_setLc (i := 3) (own := [("cell", 4)]) (g := gName 4) rfl nd rfl rfl (sw_true rfl rfl rfl (by decide +kernel)) (pi_list (pv 0)) (blkOk_by (N := ["script", "k", "cells", "great", "cell", "begun", "left"]) (sc := defScope s__law_begun) (by decide +kernel)) (fun _ _ _ _ _ => (pg_name (i := 4) nd rfl (by first | exact Or.inl rfl | exact Or.inr rfl))) (fun _ _ _ _ _ => (pts_one (pt_cmpR op_ge (pv 4) (pe_op op_pow pe_int pe_int) (nomark _)))) (fun _ _ _ _ _ => (pv 4)))
      (pss_cons (ps_set (i := 5) nd rfl (by first | exact Or.inl rfl | exact Or.inr rfl) (pe_op op_add pe_int (pe_op op_mul pe_int (pv 1))))
      (pss_cons (ps_for PassesOwn.never rfl (pi_list (pv 2)) (pg_name (i := 4) nd rfl (by first | exact Or.inl rfl | exact Or.inr rfl)) (pss_one (ps_set (i := 5) nd rfl (by first | exact Or.inl rfl | exact Or.inr rfl) (pe_op op_mod (pe_callTy call_intI (by rfl) T.int (by decide +kernel) (pa_cons (pe_op op_add (pe_op op_mul (pv 5) pe_int) (pv 4)) pa_nil)) pe_int))))
      (pss_cons (ps_set (i := 6) nd rfl (by first | exact Or.inl rfl | exact Or.inr rfl) (pe_ifExp (pt_cmpR op_lt (pv 1) (pe_callB call_len_seq (by rfl) T.len (by decide +kernel) (pa_cons (pv 3) pa_nil)) (nomark _)) (pe_ix ix_list (pv 3) (pv 1) (fun _ _ => rfl)) pe_int))
      (pss_one (ps_ret (pe_disp (pps_cons pe_str (pv 6) (pps_cons pe_str (pv 5) (pps_cons pe_str (pe_op op_cat (pv 2) (pe_lst (pa_cons (pe_op op_add (pe_op op_mul pe_int (pv 1)) pe_int) pa_nil))) (pps_cons pe_str pe_int pps_nil)))) (by rfl) (by rfl) (fun z => by cases z) (by decide))))))))), ?_⟩
    obtain ⟨m1, e1, l1⟩ := cut_int (ns := ns) (some k) none
    obtain ⟨m2, e2, l2⟩ := cut_int (ns := ns) none (some k)
    refine ⟨.ref a, rfl, _, rfl, k, rfl, a, _, rfl, hx, fun p1 n1 => ?_⟩
    rw [e1]
    have s1 : Same H (upd H p1 (.lst (m1.map V.int))) := Same.new n1
    have g1 : (upd H p1 (.lst (m1.map V.int))) p1 = some (.lst (m1.map V.int)) := upd_same
    generalize upd H p1 (.lst (m1.map V.int)) = H1 at s1 g1 ⊢
    refine ⟨.ref a, rfl, _, rfl, k, rfl, a, _, rfl, s1.seq hx, fun p2 n2 => ?_⟩
    rw [e2]
    have s2 : Same H1 (upd H1 p2 (.lst (m2.map V.int))) := Same.new n2
    have g2 : (upd H1 p2 (.lst (m2.map V.int))) p2 = some (.lst (m2.map V.int)) := upd_same
    generalize upd H1 p2 (.lst (m2.map V.int)) = H2 at s2 g2 ⊢
    refine ⟨p1, p2, _, _, rfl, rfl, s2 _ _ g1, g2, ?_, fun p3 n3 => ?_⟩
    · rw [List.length_map, List.length_map]
      exact small (by omega)
    rw [← List.map_append]
    have s3 : Same H2 (upd H2 p3 (.lst ((m1 ++ m2).map V.int))) := Same.new n3
    have g3 : (upd H2 p3 (.lst ((m1 ++ m2).map V.int))) p3 = some (.lst ((m1 ++ m2).map V.int)) := upd_same
    have hl3 : (m1 ++ m2).length ≤ 126 := by
      rw [List.length_append]
      omega
    generalize m1 ++ m2 = cs at s3 g3 hl3 ⊢
    generalize upd H2 p3 (.lst (cs.map V.int)) = H3 at s3 g3 ⊢
    have sA : Same H H3 := (s1.trans s2).trans s3
    clear s1 s2 s3 g1 g2
    first | refine sigN [some (.ref a), some (.int (k)), some (V.ref p3), none, none, none, none] (by rfl) ?_ | refine sig [some (.ref a), some (.int (k)), some (V.ref p3), none, none, none, none] (by rfl) ?_
    refine ⟨.ref a, rfl, a, rfl, ⟨_, sA.seq hx⟩, fun D hD => ?_⟩
    refine lc_list (K := K) (a := a) (xs := ns.map V.int) (fun i H4 => Same H3 H4 ∧ ∃ gs : List Int, H4 D = some (.lst (gs.map V.int)) ∧ gs.length ≤ i) ⟨Same.new hD, [], upd_same, Nat.le_refl _⟩ (fun i H4 _ z => (sA.trans z.1).seq hx) (fun i x H4 hi z => ?_) (fun H4 z => ?_)
    · obtain ⟨s4, gs, g4, l4⟩ := z
      obtain ⟨y, rfl⟩ : ∃ y : Int, x = .int y := by
        rw [List.getElem?_map] at hi
        cases e : ns[i]? with
        | none =>
          rw [e] at hi
          cases hi
        | some y =>
          rw [e] at hi
          exact ⟨y, (Option.some.inj hi).symm⟩
      have hi2 : i < ns.length := by
        have h1 := (List.getElem?_eq_some_iff.mp hi).1
        rw [List.length_map] at h1
        exact h1
      refine ⟨rfl, _, rfl, _, _, rfl, rfl, ⟨by decide, by decide, by decide⟩, _, _, rfl, rfl, _, rfl, ite2 (fun _ => ?_) (fun _ => ?_)⟩
      · refine ⟨_, rfl, _, g4, ?_, Same.put s4 hD, gs ++ [y], ?_, ?_⟩
        · rw [List.length_map]
          exact small1000 (by omega)
        · rw [upd_same, List.map_append]
          rfl
        · rw [List.length_append]
          exact Nat.add_le_add_right l4 1
      · exact ⟨s4, gs, g4, Nat.le_succ_of_le l4⟩
    · obtain ⟨s4, gs, g4, l4⟩ := z
      have sB : Same H H4 := sA.trans s4
      have g3' := s4 _ _ g3
      refine ⟨_, rfl, _, _, rfl, rfl, (Or.inl ⟨by decide, by decide⟩), _, _, rfl, rfl, ?_⟩
      first | refine sigN [some (.ref a), some (.int (k)), some (V.ref p3), some (V.ref D), none, some (.int (61 + 9 * k)), none] (by rfl) ?_ | refine sig [some (.ref a), some (.int (k)), some (V.ref p3), some (V.ref D), none, some (.int (61 + 9 * k)), none] (by rfl) ?_
      refine ⟨_, rfl, p3, rfl, ⟨_, .inl (.inl g3')⟩, for_list (K := K) (a := p3) (xs := cs.map V.int) (fun i σ H5 => H5 = H4 ∧ ∃ (y : Int) (v : Option V), σ = [some (.ref a), some (.int k), some (.ref p3), some (.ref D), v, some (.int y), none]) ⟨rfl, _, none, rfl⟩ (fun i σ H5 _ z => by rw [z.1]; exact .inl (.inl g3')) ?_ ?_⟩
      · rintro i x σ H5 hi ⟨rfl, y, v, rfl⟩
        obtain ⟨t, rfl⟩ : ∃ t : Int, x = .int t := by
          rw [List.getElem?_map] at hi
          cases e : cs[i]? with
          | none =>
            rw [e] at hi
            cases hi
          | some t =>
            rw [e] at hi
            exact ⟨t, (Option.some.inj hi).symm⟩
        refine ⟨_, rfl, _, _, rfl, rfl, (Or.inr ⟨by decide, by decide⟩), _, rfl, _, _, rfl, rfl, _, rfl, _, _, rfl, rfl, (by show (0 : Int) < 2147483647; decide), ?_⟩
        exact ⟨rfl, _, _, rfl⟩
      · rintro σ H5 ⟨rfl, y, v, rfl⟩
        refine ⟨_, rfl, _, rfl, D, _, rfl, .inl (.inl (.inl g4)), _, _, rfl, rfl, _, rfl, ite2 (fun e => ?A) (fun e => ?B)⟩
        case' A =>
          have e' : k < ((gs.map V.int).length : Int) := of_decide_eq_true e
          rw [List.length_map] at e'
          have hk2 : k.toNat < gs.length := by omega
          have hz : atI (gs.map V.int) k = some (.int gs[k.toNat]) := by
            have key : atI (gs.map V.int) ((k.toNat : Nat) : Int) = some (.int gs[k.toNat]) := atI_nat (by
              rw [List.getElem?_map, List.getElem?_eq_getElem hk2]
              rfl)
            rw [show ((k.toNat : Nat) : Int) = k by omega] at key
            exact key
          refine ⟨_, rfl, _, rfl, D, _, _, _, rfl, rfl, .inl (.inl g4), hz, ?_⟩
        all_goals
          intro m nm
          have h3m : p3 ≠ m := ne_of_none g3' nm
          refine ⟨_, rfl, _, rfl, _, rfl, _, rfl, _, _, rfl, rfl, (Or.inl ⟨by decide, by decide⟩), _, _, rfl, rfl, (by show 1 ≤ sizeLine; decide), fun l nl => ?_⟩
          have nml : m ≠ l := ne_of_none upd_same nl
          have nl0 : H5 l = none := Same.free (Same.new nm) nl
          refine ⟨p3, l, cs.map V.int, [V.int (47 * k + 19)], rfl, rfl, ?_, upd_same, ?_, fun u nu => ?_⟩
          · rw [upd_ne (ne_of_none g3' nl0), upd_ne h3m]
            exact g3'
          · rw [List.length_map]
            exact small (by show cs.length + 1 ≤ 1000; omega)
          have nmu : m ≠ u := ne_of_none (by rw [upd_ne nml]; exact upd_same) nu
          have nu0 : H5 u = none := Same.free (Same.put (Same.new nm) nl0) nu
          refine ⟨?_, mk4 _ y u 0, rfl, (by show 4 ≤ 15; decide), ?_⟩
          · rw [upd_ne nmu, upd_ne nml]
            exact upd_same
          rw [m4_merge]
          have hm0 : H m = none := Same.free sB nm
          have hl0 : H l = none := Same.free sB nl0
          have hu0 : H u = none := Same.free sB nu0
          refine q _ m u (Same.put (Same.put (Same.put (Same.put sB hm0) hl0) hu0) hm0) hm0 hu0 ⟨_, y, cs ++ [47 * k + 19], 0, upd_same, Nat.le_refl _, ?_, ?_⟩
          · rw [upd_ne (fun z => nmu z.symm), upd_same, List.map_append]
            rfl
          · rw [List.length_append]
            exact Nat.lt_of_lt_of_le (by decide : 0 < 1) (Nat.le_add_left _ _)
end
end K45
set_option Elab.async false
set_option linter.all false
set_option maxRecDepth 100000
set_option maxHeartbeats 4000000
namespace K45
open PySem PySem.Spec PyProof.Rows L2 Gd QM K45M
/-- the heap said anew -/
theorem hpN {nx : L2.St → Hp → Prop} {i : Nat} {v : V} {σ : L2.St} {H : Hp} (H' : Hp) (e : H = H') (h : gName i v σ H' nx) : gName i v σ H nx := by
  subst e
  exact h
theorem st_ok {n a : Int} {p : Int × Int} {b : Bool} {S : Pt} (hn : 0 < n) (hp : Dg n p.1 ∧ Dg n p.2) (hS : PtOk n S) : ROk n (K45M.st n a p b S) := by
  unfold K45M.st
  have h1 := sum_ok (a := a) hn hS hS
  generalize sumR n a S S = r1 at h1 ⊢
  cases r1 with
  | br d => exact h1
  | ok P1 =>
    show ROk n (if b = true then sumR n a P1 (some p) else .ok P1)
    split
    · exact sum_ok hn h1 hp
    · exact h1
theorem wk_ok {n a : Int} {p : Int × Int} {k : Nat} (hn : 0 < n) (hp : Dg n p.1 ∧ Dg n p.2) : ∀ {j : Nat} {S : Pt}, PtOk n S → ROk n (wk n a p k j S)
  | 0, S, h => h
  | j + 1, S, h => by
    rw [wk_succ]
    have h1 := st_ok (a := a) (b := k / 2 ^ j % 2 == 1) hn hp h
    generalize K45M.st n a p (k / 2 ^ j % 2 == 1) S = r1 at h1 ⊢
    cases r1 with
    | br d => exact h1
    | ok P1 => exact wk_ok hn hp h1
theorem rd_ok {n : Int} (hB : B 300 n) : ∀ {r : R}, ROk n r → okD (rD r) = true ∧ (rD r).depth ≤ 40 ∧ wt (rD r) ≤ 1000000
  | .ok none, h => by
    refine ⟨?_, ?_, ?_⟩
    · simp only [rD, ptD, okD, okAll, Bool.and_true]
      decide +kernel
    · simp [rD, ptD, PyData.depth, PyData.depthAll]
    · simp only [rD, ptD, wt, wtAll]
      decide +kernel
  | .ok (some P), h => by
    have b1 : B 300 P.1 := B.of_le hB (by have := h.1; unfold Dg at this; omega)
    have b2 : B 300 P.2 := B.of_le hB (by have := h.2; unfold Dg at this; omega)
    refine ⟨?_, ?_, ?_⟩
    · simp only [rD, ptD, okD, okAll, Bool.and_true, b1.log (show 300 ≤ 1900 by decide), b2.log (show 300 ≤ 1900 by decide), decide_true]
      decide +kernel
    · simp [rD, ptD, PyData.depth, PyData.depthAll]
    · simp only [rD, ptD, wt, wtAll]
      decide +kernel
  | .br none, h => by
    refine ⟨?_, ?_, ?_⟩
    · simp only [rD, opD, okD, okAll, Bool.and_true]
      decide +kernel
    · simp [rD, opD, PyData.depth, PyData.depthAll]
    · simp only [rD, opD, wt, wtAll]
      decide +kernel
  | .br (some d), h => by
    have b1 : B 300 d := B.of_le hB (by have := h.1; have := h.2; omega)
    refine ⟨?_, ?_, ?_⟩
    · simp only [rD, opD, okD, okAll, Bool.and_true, b1.log (show 300 ≤ 1900 by decide), decide_true]
      decide +kernel
    · simp [rD, opD, PyData.depth, PyData.depthAll]
    · simp only [rD, opD, wt, wtAll]
      decide +kernel
/-- a number of the list -/
def Pn (y : Int) : Prop := y % 2 = 1 ∧ 5 ≤ y ∧ y ≤ 10 ^ 18 + 9
def someL : List V := [.int 5, .int 7, .int 11, .int 13, .int 17, .int 19, .int 23, .int 101, .int 103, .int 997, .int (10 ^ (9 : Int).toNat + 7), .int (10 ^ (18 : Int).toNat + 9)]
theorem some_is {x : V} (h : x ∈ someL) : ∃ y : Int, x = .int y ∧ Pn y := by
  simp only [someL, List.mem_cons, List.not_mem_nil, or_false] at h
  rcases h with rfl | rfl | rfl | rfl | rfl | rfl | rfl | rfl | rfl | rfl | rfl | rfl <;> exact ⟨_, rfl, by decide +kernel, by decide +kernel, by decide +kernel⟩
theorem cut_mem {xs : List V} {lo hi : Option Int} {x : V} (h : x ∈ cutV xs lo hi) : x ∈ xs := by
  unfold cutV at h
  exact List.mem_of_mem_drop (List.mem_of_mem_take h)
theorem Pn.B {y : Int} (h : Pn y) : Gd.B 60 y := by
  obtain ⟨h1, h2, h3⟩ := h
  unfold Gd.B
  omega
theorem odd_mul {x y : Int} (hx : x % 2 = 1) (hy : y % 2 = 1) : x * y % 2 = 1 := by
  rw [Int.mul_emod, hx, hy]
  rfl
section
variable {P : Program} {w : World} {K : PySem.W.Frag} {mg : Str → Option Value} {base : Heap}
def sp_law_number (K : PySem.W.Frag) : Sp := fun vs H Q _ => ∃ (m cl : Addr) (n : Nat), vs = [.ref m] ∧ n ≤ 1000 ∧ MAt H m cl n ∧ ∀ H' r, But m H H' → MAt H' m cl (n + 5) → 5 ≤ r → r % 2 = 1 → B 200 r → Q (.int r) H'
abbrev s__law_number : Stmt := topS 18
theorem sc__law_number : FnScope ["m", "some", "way", "found"] ["m"] (defScope s__law_number) := ⟨rfl, rfl, rfl, by decide +kernel, rfl, by decide +kernel, by decide +kernel⟩
theorem k_law_number (T : Tx K mg) (D : Df K mg "_law_number" s__law_number ["m"]) (c_law_draw : Kl P w K mg base 1 "_law_draw" (sp_law_draw K)) (c_law_of : Kl P w K mg base 2 "_law_of" (sp_law_of K)) : Kl P w K mg base 3 "_law_number" (sp_law_number K) := by
  have nd := sc__law_number.nd
  refine Kl.by_body D sc__law_number (fun vs H Q E h => ?_) (fun f cdv A outer s H vs Q E hr h => ?_)
  · obtain ⟨_, _, _, rfl, _⟩ := h
    rfl
  · obtain ⟨m, cl, n, rfl, hn, hM, q⟩ := h
    have hu1 := hu_of hr
    refine ⟨_, (pss_cons (ps_set (i := 1) nd rfl (by first | exact Or.inl rfl | exact Or.inr rfl) (pe_lst (pa_cons pe_int (pa_cons pe_int (pa_cons pe_int (pa_cons pe_int (pa_cons pe_int (pa_cons pe_int (pa_cons pe_int (pa_cons pe_int (pa_cons pe_int (pa_cons pe_int (pa_cons (pe_op op_add (pe_op op_pow pe_int pe_int) pe_int) (pa_cons (pe_op op_add (pe_op op_pow pe_int pe_int) pe_int) pa_nil))))))))))))))
      (pss_cons (ps_set (i := 2) nd rfl (by first | exact Or.inl rfl | exact Or.inr rfl) (pe_k c_law_draw  hr (by decide) (by rfl) (pa_cons (pv 0) (pa_cons pe_int pa_nil))))
      (pss_cons (ps_if (pt_cmpR op_eq (pv 2) pe_int (nomark _)) (pss_one (ps_ret (pe_op op_add (pe_op op_mul pe_int (pe_op op_add pe_int (pe_k c_law_draw  hr (by decide) (by rfl) (pa_cons (pv 0) (pa_cons pe_int pa_nil))))) (pe_k c_law_of  hr (by decide) (by rfl) (pa_cons (pv 0) (pa_cons (pe_lst (pa_cons pe_int (pa_cons (pe_un un_neg pe_int) pa_nil))) pa_nil)))))) pss_nil)
      (pss_cons (ps_if (pt_cmpR op_eq (pv 2) pe_int (nomark _)) (pss_one (ps_ret (pe_k c_law_of  hr (by decide) (by rfl) (pa_cons (pv 0) (pa_cons (pv 1) pa_nil))))) pss_nil)
      (pss_cons (ps_set (i := 3) nd rfl (by first | exact Or.inl rfl | exact Or.inr rfl) (pe_op op_mulW (pe_k c_law_of  hr (by decide) (by rfl) (pa_cons (pv 0) (pa_cons (pv 1) pa_nil))) (pe_k c_law_of  hr (by decide) (by rfl) (pa_cons (pv 0) (pa_cons (pe_slice sl_list (pv 1) po_none (po_some pe_int)) pa_nil)))))
      (pss_one (ps_ret (pe_ifExp (pt_cmpR op_eq (pv 2) pe_int (nomark _)) (pv 3) (pe_op op_mulW (pv 3) (pe_k c_law_of  hr (by decide) (by rfl) (pa_cons (pv 0) (pa_cons (pe_slice sl_list (pv 1) po_none (po_some pe_int)) pa_nil)))))))))))), ?_⟩
    refine ⟨_, _, rfl, rfl, ⟨by decide, by decide, by decide⟩, _, _, rfl, rfl, _, _, rfl, rfl, ⟨by decide, by decide, by decide⟩, _, _, rfl, rfl, (by show 12 ≤ sizeLine; decide), fun l nl => ?_⟩
    refine hpN (upd H l (.lst someL)) rfl ?_
    have s1 := Same.new (H := H) (p := l) (o := .lst someL) nl
    have gl : upd H l (.lst someL) l = some (.lst someL) := upd_same
    generalize upd H l (.lst someL) = H1 at s1 gl ⊢
    first | refine sigN [some (.ref m), some (.ref l), none, none] (by rfl) ?_ | refine sig [some (.ref m), some (.ref l), none, none] (by rfl) ?_
    refine ⟨.ref m, rfl, m, cl, 4, n, rfl, by decide, by decide, by omega, hM.same s1, fun H2 way b2 m2 w0 w1 => ?_⟩
    first | refine sigN [some (.ref m), some (.ref l), some (.int (way)), none] (by rfl) ?_ | refine sig [some (.ref m), some (.ref l), some (.int (way)), none] (by rfl) ?_
    have bA : But m H H2 := (But.of s1).trans b2
    have gl2 := b2.lst (hM.same s1) gl
    refine ⟨_, rfl, rfl, _, rfl, ?_⟩
    rw [dec_int]
    by_cases h0 : way = 0
    · refine iteY (by simpa using h0) ?_
      refine ⟨.ref m, rfl, m, cl, 60, n + 1, rfl, by decide, by decide, by omega, m2, fun H3 r b3 m3 r0 r1 => ⟨_, _, rfl, rfl, _, _, rfl, rfl, (Or.inl ⟨by decide, by decide⟩), ?_⟩⟩
      refine ⟨.ref m, rfl, _, rfl, (by show 2 ≤ sizeLine; decide), fun l2 n2 => ?_⟩
      have s4 := Same.new (H := H3) (p := l2) (o := .lst [.int 1, .int (-1)]) n2
      have g4 : upd H3 l2 (.lst [.int 1, .int (-1)]) l2 = some (.lst [.int 1, .int (-1)]) := upd_same
      generalize upd H3 l2 (.lst [.int 1, .int (-1)]) = H4 at s4 g4 ⊢
      refine ⟨m, cl, l2, _, n + 1 + 1, rfl, lst_of g4, by decide, by decide, by omega, m3.same s4, fun H5 z b5 m5 hz => ?_⟩
      obtain ⟨z, rfl, hz⟩ : ∃ y : Int, z = .int y ∧ (y = 1 ∨ y = -1) := by
        simp only [List.mem_cons, List.not_mem_nil, or_false] at hz
        rcases hz with rfl | rfl
        · exact ⟨_, rfl, .inl rfl⟩
        · exact ⟨_, rfl, .inr rfl⟩
      refine ⟨_, _, rfl, rfl, q _ _ (bA.trans (b3.trans ((But.of s4).trans b5))) (m5.up (by omega)) (by omega) (by omega) ?_⟩
      exact B.up (m := 20) (by unfold Gd.B; omega) (by decide)
    refine iteN (by simpa using h0) ?_
    refine ⟨_, rfl, rfl, _, rfl, ?_⟩
    rw [dec_int]
    by_cases h1 : way = 1
    · refine iteY (by simpa using h1) ?_
      refine ⟨.ref m, rfl, .ref l, rfl, m, cl, l, _, n + 1, rfl, lst_of gl2, by decide, by decide, by omega, m2, fun H3 z b3 m3 hz => ?_⟩
      obtain ⟨y, rfl, hy⟩ := some_is hz
      exact q _ _ (bA.trans b3) (m3.up (by omega)) hy.2.1 hy.1 (hy.B.up (by decide))
    refine iteN (by simpa using h1) ?_
    refine ⟨.ref m, rfl, .ref l, rfl, m, cl, l, _, n + 1, rfl, lst_of gl2, by decide, by decide, by omega, m2, fun H3 z b3 m3 hz => ?_⟩
    obtain ⟨y, rfl, hy⟩ := some_is hz
    have gl3 := b3.lst m2 gl2
    refine ⟨.ref m, rfl, .ref l, rfl, _, rfl, l, _, rfl, lst_of gl3, fun l2 n2 => ?_⟩
    have s4 := Same.new (H := H3) (p := l2) (o := .lst (cutV someL none (some 9))) n2
    have g4 : upd H3 l2 (.lst (cutV someL none (some 9))) l2 = some (.lst (cutV someL none (some 9))) := upd_same
    generalize upd H3 l2 (.lst (cutV someL none (some 9))) = H4 at s4 g4 ⊢
    refine ⟨m, cl, l2, _, n + 1 + 1, rfl, lst_of g4, by decide +kernel, by decide +kernel, by omega, m3.same s4, fun H5 z b5 m5 hz => ?_⟩
    obtain ⟨y2, rfl, hy2⟩ := some_is (cut_mem hz)
    have gl5 := b5.lst (m3.same s4) (s4 _ _ gl3)
    refine ⟨_, _, rfl, rfl, hy.B.mulW hy2.B (by decide), ?_⟩
    first | refine sigN [some (.ref m), some (.ref l), some (.int (way)), some (.int (y * y2))] (by rfl) ?_ | refine sig [some (.ref m), some (.ref l), some (.int (way)), some (.int (y * y2))] (by rfl) ?_
    have o1 := odd_mul hy.1 hy2.1
    have f1 : 5 ≤ y * y2 := by
      have := Int.mul_le_mul_of_nonneg_right (show 1 ≤ y by have := hy.2.1; omega) (show 0 ≤ y2 by have := hy2.2.1; omega)
      have := hy2.2.1
      omega
    have B1 := hy.B.mul hy2.B
    obtain ⟨f, hf⟩ : ∃ f, y * y2 = f := ⟨_, rfl⟩
    rw [hf] at o1 f1 B1 ⊢
    have bB := bA.trans (b3.trans ((But.of s4).trans b5))
    refine ⟨_, rfl, rfl, _, rfl, ?_⟩
    rw [dec_int]
    by_cases h2 : way = 2
    · refine iteY (by simpa using h2) ?_
      exact ⟨_, rfl, q _ _ bB (m5.up (by omega)) f1 o1 (B1.up (by decide))⟩
    refine iteN (by simpa using h2) ?_
    refine ⟨_, rfl, .ref m, rfl, .ref l, rfl, _, rfl, l, _, rfl, lst_of gl5, fun l3 n3 => ?_⟩
    have s6 := Same.new (H := H5) (p := l3) (o := .lst (cutV someL none (some 4))) n3
    have g6 : upd H5 l3 (.lst (cutV someL none (some 4))) l3 = some (.lst (cutV someL none (some 4))) := upd_same
    generalize upd H5 l3 (.lst (cutV someL none (some 4))) = H6 at s6 g6 ⊢
    refine ⟨m, cl, l3, _, n + 1 + 1 + 1, rfl, lst_of g6, by decide +kernel, by decide +kernel, by omega, m5.same s6, fun H7 z b7 m7 hz => ?_⟩
    obtain ⟨y3, rfl, hy3⟩ := some_is (cut_mem hz)
    refine ⟨_, _, rfl, rfl, B1.mulW hy3.B (by decide), ?_⟩
    have f2 : 5 ≤ f * y3 := by
      have := Int.mul_le_mul_of_nonneg_right (show 1 ≤ f by omega) (show 0 ≤ y3 by have := hy3.2.1; omega)
      have := hy3.2.1
      omega
    exact q _ _ (bB.trans ((But.of s6).trans b7)) (m7.up (by omega)) f2 (odd_mul o1 hy3.1) ((B1.mul hy3.B).up (by decide))
/-! ### the law -/
def sp_law (K : PySem.W.Frag) : Sp := fun vs H Q _ => ∃ (a : Addr) (ns : List Int), vs = [.ref a] ∧ SqL K H a (ns.map V.int) ∧ ns.length ≤ 63 ∧ ∀ H', Q (.bl true) H'
abbrev s_law : Stmt := topS 19
theorem sc_law : FnScope ["script", "k", "m", "lap", "n", "a", "x", "y", "curve", "some", "k2"] ["script"] (defScope s_law) := ⟨rfl, rfl, rfl, by decide +kernel, rfl, by decide +kernel, by decide +kernel⟩
theorem k_law {fl : Addr} {fdl : FuncData} (T : Tx K mg) (Fl : Fun K "law" "law" s_law fl fdl) (c_law_begun : Kl P w K mg base 1 "_law_begun" (sp_law_begun K)) (c_law_number : Kl P w K mg base 3 "_law_number" (sp_law_number K)) (c_law_draw : Kl P w K mg base 1 "_law_draw" (sp_law_draw K)) (c_times_mod : Kl P w K mg base 4 "times_mod" (sp_times_mod K)) (c_law_walk : Kl P w K mg base 3 "_law_walk" (sp_law_walk K)) : FnG P w K mg base 5 fl fdl ["script"] (sp_law K) := by
  have nd := sc_law.nd
  refine FnG.by_body Fl sc_law (fun vs H Q E h => ?_) (fun cdv A outer s H vs Q E hgd hr h => ?_)
  · obtain ⟨_, _, rfl, _⟩ := h
    rfl
  · obtain ⟨a, ns, rfl, hx, hl, q⟩ := h
    have hu1 := hu_of hr
    refine ⟨_, (pss_cons (ps_for PassesOwn.never rfl (pi_range1 (by rfl) T.range (pa_cons pe_int pa_nil)) (pg_name (i := 1) nd rfl (by first | exact Or.inl rfl | exact Or.inr rfl)) (pss_cons (ps_set (i := 2) nd rfl (by first | exact Or.inl rfl | exact Or.inr rfl) (pe_k c_law_begun  hr (by decide) (by rfl) (pa_cons (pv 0) (pa_cons (pv 1) pa_nil))))
      (pss_one (ps_for PassesOwn.never rfl (pi_range1 (by rfl) T.range (pa_cons pe_int pa_nil)) (pg_name (i := 3) nd rfl (by first | exact Or.inl rfl | exact Or.inr rfl)) (pss_cons (ps_set (i := 4) nd rfl (by first | exact Or.inl rfl | exact Or.inr rfl) (pe_k c_law_number  hr (by decide) (by rfl) (pa_cons (pv 2) pa_nil)))
      (C8.pss_cut (ps_par3 (i := 5) (j := 6) (l := 7) (by rfl) nd rfl rfl rfl (by decide) (by decide) (by decide) rfl rfl rfl (pa_cons (pe_ifExp (pt_cmpR op_lt (pv 4) (pe_op op_pow pe_int pe_int) (nomark _)) (pe_k c_law_draw  hr (by decide) (by rfl) (pa_cons (pv 2) (pa_cons (pv 4) pa_nil))) (pe_k c_law_draw  hr (by decide) (by rfl) (pa_cons (pv 2) (pa_cons (pe_op op_pow pe_int pe_int) pa_nil)))) (pa_cons (pe_k c_law_draw  hr (by decide) (by rfl) (pa_cons (pv 2) (pa_cons (pe_callB (call_min2 rfl) (by rfl) T.min (by decide +kernel) (pa_cons (pv 4) (pa_cons (pe_op op_pow pe_int pe_int) pa_nil))) pa_nil))) (pa_cons (pe_k c_law_draw  hr (by decide) (by rfl) (pa_cons (pv 2) (pa_cons (pe_callB (call_min2 rfl) (by rfl) T.min (by decide +kernel) (pa_cons (pv 4) (pa_cons (pe_op op_pow pe_int pe_int) pa_nil))) pa_nil))) pa_nil))) (by rfl))
      (pss_cons (ps_set (i := 8) nd rfl (by first | exact Or.inl rfl | exact Or.inr rfl) (pe_tup (pa_cons (pv 5) (pa_cons (pe_op op_mod (pe_callTy call_intI (by rfl) T.int (by decide +kernel) (pa_cons (pe_op op_sub (pe_op op_sub (pe_op op_mulW (pv 7) (pv 7)) (pe_op op_pow (pv 6) pe_int)) (pe_op op_mulW (pv 5) (pv 6))) pa_nil)) (pv 4)) pa_nil))))
      (pss_cons (ps_set (i := 9) nd rfl (by first | exact Or.inl rfl | exact Or.inr rfl) (pe_lst (pa_cons pe_int (pa_cons pe_int (pa_cons pe_int (pa_cons pe_int (pa_cons (pe_k c_law_draw  hr (by decide) (by rfl) (pa_cons (pv 2) (pa_cons pe_int pa_nil))) (pa_cons (pe_k c_law_draw  hr (by decide) (by rfl) (pa_cons (pv 2) (pa_cons pe_int pa_nil))) (pa_cons (pv 4) (pa_cons (pe_op op_add (pv 4) pe_int) (pa_cons (pe_k c_law_draw  hr (by decide) (by rfl) (pa_cons (pv 2) (pa_cons (pe_op op_pow pe_int pe_int) pa_nil))) pa_nil)))))))))))
      (pss_one (ps_for PassesOwn.never rfl (pi_list (pv 9)) (pg_name (i := 10) nd rfl (by first | exact Or.inl rfl | exact Or.inr rfl)) (pss_one (ps_if (pt_cmpR op_ne (pe_callB (call_reprD hgd hr.units) (by rfl) T.repr (by decide +kernel) (pa_cons (pe_k c_times_mod  hr (by decide) (by rfl) (pa_cons (pv 4) (pa_cons (pv 8) (pa_cons (pe_tup (pa_cons (pv 6) (pa_cons (pv 7) pa_nil))) (pa_cons (pv 10) pa_nil))))) pa_nil)) (pe_callB (call_reprD hgd hr.units) (by rfl) T.repr (by decide +kernel) (pa_cons (pe_k c_law_walk  hr (by decide) (by rfl) (pa_cons (pv 4) (pa_cons (pv 8) (pa_cons (pe_tup (pa_cons (pv 6) (pa_cons (pv 7) pa_nil))) (pa_cons (pv 10) pa_nil))))) pa_nil)) (nomark _)) (pss_one (ps_ret pe_bl)) pss_nil))))))))))))
      (pss_one (ps_ret pe_bl))), ?_⟩
    refine ⟨3, rfl, by decide, by decide, ?_⟩
    refine for_range (lo := 0) (n := 3) (fun i σ H2 => Same H H2 ∧ ∃ v1 v2 v3 v4 v5 v6 v7 v8 v9 v10 : Option V, σ = [some (.ref a), v1, v2, v3, v4, v5, v6, v7, v8, v9, v10]) ⟨Same.refl _, none, none, none, none, none, none, none, none, none, none, rfl⟩ ?_ ?_
    · rintro i σ H2 hi ⟨s2, v1, v2, v3, v4, v5, v6, v7, v8, v9, v10, rfl⟩
      refine ⟨.ref a, rfl, _, rfl, a, _, ns, rfl, s2.seq hx, hl, by omega, by omega, fun H3 m cl s3 nm ncl hM => ?_⟩
      first | refine sigN [some (.ref a), some (.int (0 + (i : Int))), some (.ref m), v3, v4, v5, v6, v7, v8, v9, v10] (by rfl) ?_ | refine sig [some (.ref a), some (.int (0 + (i : Int))), some (.ref m), v3, v4, v5, v6, v7, v8, v9, v10] (by rfl) ?_
      refine ⟨4, rfl, by decide, by decide, ?_⟩
      refine for_range (lo := 0) (n := 4) (fun j σ H4 => But m H3 H4 ∧ MAt H4 m cl (20 * j) ∧ ∃ v3 v4 v5 v6 v7 v8 v9 v10 : Option V, σ = [some (.ref a), some (.int (0 + (i : Int))), some (.ref m), v3, v4, v5, v6, v7, v8, v9, v10]) ⟨But.refl _ _, hM, v3, v4, v5, v6, v7, v8, v9, v10, rfl⟩ ?_ ?_
      · rintro j σ H4 hj ⟨b4, m4, v3, v4, v5, v6, v7, v8, v9, v10, rfl⟩
        first | refine sigN [some (.ref a), some (.int (0 + (i : Int))), some (.ref m), some (.int (0 + (j : Int))), v4, v5, v6, v7, v8, v9, v10] (by rfl) ?_ | refine sig [some (.ref a), some (.int (0 + (i : Int))), some (.ref m), some (.int (0 + (j : Int))), v4, v5, v6, v7, v8, v9, v10] (by rfl) ?_
        refine ⟨.ref m, rfl, m, cl, _, rfl, by omega, m4, fun H5 n b5 m5 n5 nodd nB => ?_⟩
        first | refine sigN [some (.ref a), some (.int (0 + (i : Int))), some (.ref m), some (.int (0 + (j : Int))), some (.int (n)), v5, v6, v7, v8, v9, v10] (by rfl) ?_ | refine sig [some (.ref a), some (.int (0 + (i : Int))), some (.ref m), some (.int (0 + (j : Int))), some (.int (n)), v5, v6, v7, v8, v9, v10] (by rfl) ?_
        have n0 : 0 < n := by omega
        have un2 := two_unit nodd
        obtain ⟨d, hd⟩ : ∃ d : Int, (if (1000000000 : Int) < n then 1000000000 else n) = d := ⟨_, rfl⟩
        have hmin : (if (10 : Int) ^ (9 : Int).toNat < n then (10 : Int) ^ (9 : Int).toNat else n) = d := hd
        have d0 : 0 < d ∧ d ≤ 1000000000 ∧ d ≤ n := by
          rw [← hd]
          split <;> omega
        obtain ⟨d0, d9, dn⟩ := d0
        refine ⟨fun σ' H' => But m H3 H' ∧ MAt H' m cl (20 * j + 8) ∧ ∃ r x y : Int, σ' = [some (.ref a), some (.int (0 + (i : Int))), some (.ref m), some (.int (0 + (j : Int))), some (.int n), some (.int r), some (.int x), some (.int y), v8, v9, v10] ∧ 0 ≤ r ∧ r < 1000000000 ∧ Dg n x ∧ Dg n y ∧ x < 1000000000 ∧ y < 1000000000, ?_, ?_⟩
        · refine ⟨_, rfl, _, _, rfl, rfl, ⟨by decide, by decide, by decide⟩, _, _, rfl, rfl, _, rfl, ?_⟩
          rw [show (10 : Int) ^ (9 : Int).toNat = 1000000000 from rfl]
          by_cases hn9 : n < 1000000000
          · refine iteY (decide_eq_true hn9) ?_
            refine ⟨.ref m, rfl, _, rfl, m, cl, n, _, rfl, n0, by omega, by omega, m5, fun H6 r b6 m6 r0 r1 => ?_⟩
            refine ⟨.ref m, rfl, _, rfl, _, _, rfl, rfl, ⟨by decide, by decide, by decide⟩, _, _, rfl, ?_⟩
            rw [hmin]
            refine ⟨m, cl, d, _, rfl, d0, by omega, by omega, m6, fun H7 x b7 m7 x0 x1 => ?_⟩
            refine ⟨.ref m, rfl, _, rfl, _, _, rfl, rfl, ⟨by decide, by decide, by decide⟩, _, _, rfl, ?_⟩
            rw [hmin]
            refine ⟨m, cl, d, _, rfl, d0, by omega, by omega, m7, fun H8 y b8 m8 y0 y1 => ⟨_, _, _, rfl, ?_⟩⟩
            exact ⟨b4.trans (b5.trans (b6.trans (b7.trans b8))), m8.up (by omega), r, x, y, rfl, r0, by omega, ⟨x0, by omega⟩, ⟨y0, by omega⟩, by omega, by omega⟩
          · refine iteN (by simpa using hn9) ?_
            refine ⟨.ref m, rfl, _, _, rfl, rfl, ⟨by decide, by decide, by decide⟩, m, cl, _, _, rfl, by decide, by decide, by omega, m5, fun H6 r b6 m6 r0 r1 => ?_⟩
            rw [show (10 : Int) ^ (9 : Int).toNat = 1000000000 from rfl] at r1
            refine ⟨.ref m, rfl, _, rfl, _, _, rfl, rfl, ⟨by decide, by decide, by decide⟩, _, _, rfl, ?_⟩
            rw [hmin]
            refine ⟨m, cl, d, _, rfl, d0, by omega, by omega, m6, fun H7 x b7 m7 x0 x1 => ?_⟩
            refine ⟨.ref m, rfl, _, rfl, _, _, rfl, rfl, ⟨by decide, by decide, by decide⟩, _, _, rfl, ?_⟩
            rw [hmin]
            refine ⟨m, cl, d, _, rfl, d0, by omega, by omega, m7, fun H8 y b8 m8 y0 y1 => ⟨_, _, _, rfl, ?_⟩⟩
            exact ⟨b4.trans (b5.trans (b6.trans (b7.trans b8))), m8.up (by omega), r, x, y, rfl, r0, by omega, ⟨x0, by omega⟩, ⟨y0, by omega⟩, by omega, by omega⟩
        rintro σ' H8 ⟨b8, m8, r, x, y, rfl, r0, r1, dx, dy, x1, y1⟩
        have xB : B 32 x := by
          unfold Dg at dx
          unfold Gd.B
          omega
        have yB : B 32 y := by
          unfold Dg at dy
          unfold Gd.B
          omega
        have rB : B 32 r := by
          unfold Gd.B
          omega
        refine ⟨_, rfl, _, rfl, _, rfl, _, _, rfl, rfl, yB.mulW yB (by decide), _, rfl, _, _, rfl, rfl, ⟨by decide, by decide, xB.up (n := 64) (by decide)⟩, _, _, rfl, rfl, _, rfl, _, rfl, _, _, rfl, rfl, rB.mulW xB (by decide), _, _, rfl, rfl, _, rfl, _, rfl, _, _, rfl, rfl, n0, (by show 2 ≤ sizeLine; decide), fun c nc => ?_⟩
        obtain ⟨b, hb⟩ : ∃ b, (y * y - x ^ (3 : Int).toNat - r * x) % n = b := ⟨_, rfl⟩
        refine hpN (upd H8 c (.tup [.int r, .int b])) (by rw [← hb]) ?_
        have s9 := Same.new (H := H8) (p := c) (o := .tup [.int r, .int b]) nc
        have gc : upd H8 c (.tup [.int r, .int b]) c = some (.tup [.int r, .int b]) := upd_same
        generalize upd H8 c (.tup [.int r, .int b]) = H9 at s9 gc ⊢
        first | refine sigN [some (.ref a), some (.int (0 + (i : Int))), some (.ref m), some (.int (0 + (j : Int))), some (.int (n)), some (.int (r)), some (.int (x)), some (.int (y)), some (.ref c), v9, v10] (by rfl) ?_ | refine sig [some (.ref a), some (.int (0 + (i : Int))), some (.ref m), some (.int (0 + (j : Int))), some (.int (n)), some (.int (r)), some (.int (x)), some (.int (y)), some (.ref c), v9, v10] (by rfl) ?_
        have m9 := m8.same s9
        refine ⟨.ref m, rfl, m, cl, 60, _, rfl, by decide, by decide, by omega, m9, fun H10 k1 b10 m10 k10 k11 => ?_⟩
        refine ⟨.ref m, rfl, m, cl, 5000, _, rfl, by decide, by decide, by omega, m10, fun H11 k2 b11 m11 k20 k21 => ?_⟩
        refine ⟨_, rfl, _, rfl, _, _, rfl, rfl, ?_⟩
        refine ⟨.ref m, rfl, _, _, rfl, rfl, ⟨by decide, by decide, by decide⟩, m, cl, _, _, rfl, by decide, by decide, by omega, m11, fun H12 k3 b12 m12 k30 k31 => ?_⟩
        rw [show (10 : Int) ^ (9 : Int).toNat = 1000000000 from rfl] at k31
        refine ⟨(by show 9 ≤ sizeLine; decide), fun l nl => ?_⟩
        have s13 := Same.new (H := H12) (p := l) (o := .lst [.int 0, .int 1, .int 2, .int 3, .int k1, .int k2, .int n, .int (n + 1), .int k3]) nl
        have gl : upd H12 l (.lst [.int 0, .int 1, .int 2, .int 3, .int k1, .int k2, .int n, .int (n + 1), .int k3]) l = some (.lst [.int 0, .int 1, .int 2, .int 3, .int k1, .int k2, .int n, .int (n + 1), .int k3]) := upd_same
        generalize upd H12 l (.lst [.int 0, .int 1, .int 2, .int 3, .int k1, .int k2, .int n, .int (n + 1), .int k3]) = H13 at s13 gl ⊢
        first | refine sigN [some (.ref a), some (.int (0 + (i : Int))), some (.ref m), some (.int (0 + (j : Int))), some (.int (n)), some (.int (r)), some (.int (x)), some (.int (y)), some (.ref c), some (.ref l), v10] (by rfl) ?_ | refine sig [some (.ref a), some (.int (0 + (i : Int))), some (.ref m), some (.int (0 + (j : Int))), some (.int (n)), some (.int (r)), some (.int (x)), some (.int (y)), some (.ref c), some (.ref l), v10] (by rfl) ?_
        have gc13 := s13 _ _ (b12.tup m11 (b11.tup m10 (b10.tup m9 gc)))
        have b13 : But m H3 H13 := b8.trans ((But.of s9).trans (b10.trans (b11.trans (b12.trans (But.of s13)))))
        have m13 : MAt H13 m cl (20 * (j + 1)) := (m12.same s13).up (by omega)
        have hks : ∀ z : V, z ∈ [V.int 0, .int 1, .int 2, .int 3, .int k1, .int k2, .int n, .int (n + 1), .int k3] → ∃ k : Nat, z = .int (k : Int) ∧ B 300 (k : Int) := by
          have key : ∀ u : Int, 0 ≤ u → B 300 u → ∃ k : Nat, V.int u = .int (k : Int) ∧ B 300 (k : Int) := fun u h0 hB => ⟨u.toNat, by rw [Int.toNat_of_nonneg h0], by rw [Int.toNat_of_nonneg h0]; exact hB⟩
          have nB' : B 201 (n + 1) := nB.add (B.lit (n := 1) (by decide))
          intro z hz
          simp only [List.mem_cons, List.not_mem_nil, or_false] at hz
          rcases hz with rfl | rfl | rfl | rfl | rfl | rfl | rfl | rfl | rfl
          · exact key 0 (by decide) (B.lit (by decide))
          · exact key 1 (by decide) (B.lit (by decide))
          · exact key 2 (by decide) (B.lit (by decide))
          · exact key 3 (by decide) (B.lit (by decide))
          · exact key k1 k10 (B.up (m := 20) (by unfold Gd.B; omega) (by decide))
          · exact key k2 k20 (B.up (m := 20) (by unfold Gd.B; omega) (by decide))
          · exact key n (by omega) (nB.up (by decide))
          · exact key (n + 1) (by omega) (nB'.up (by decide))
          · exact key k3 k30 (B.up (m := 40) (by unfold Gd.B; omega) (by decide))
        clear b8 s9 b10 b11 b12 m9 m10 m11 m12 gc m8 hb
        refine ⟨_, rfl, l, rfl, ⟨_, lst_of gl⟩, for_list (K := K) (a := l) (xs := [.int 0, .int 1, .int 2, .int 3, .int k1, .int k2, .int n, .int (n + 1), .int k3]) (fun t σ H14 => Same H13 H14 ∧ ∃ v10 : Option V, σ = [some (.ref a), some (.int (0 + (i : Int))), some (.ref m), some (.int (0 + (j : Int))), some (.int n), some (.int r), some (.int x), some (.int y), some (.ref c), some (.ref l), v10]) ⟨Same.refl _, v10, rfl⟩ (fun t σ H14 _ z => lst_of (z.1 _ _ gl)) ?_ ?_⟩
        · rintro t z σ H14 ht ⟨s14, v10, rfl⟩
          obtain ⟨k, rfl, kB⟩ := hks z (List.mem_of_getElem? ht)
          have pk := wk_ok (a := r) (p := (x, y)) (k := k) (j := bl k) (S := none) n0 ⟨dx, dy⟩ trivial
          obtain ⟨q1, q2, q3⟩ := rd_ok (nB.up (by decide)) pk
          refine ⟨_, rfl, _, rfl, _, rfl, _, rfl, (by show 2 ≤ sizeLine; decide), fun o no => ?_⟩
          have s15 := Same.new (H := H14) (p := o) (o := .tup [.int x, .int y]) no
          have go : upd H14 o (.tup [.int x, .int y]) o = some (.tup [.int x, .int y]) := upd_same
          generalize upd H14 o (.tup [.int x, .int y]) = H15 at s15 go ⊢
          refine ⟨_, rfl, n, c, o, k, r, b, x, y, rfl, tup_of ((s14.trans s15) _ _ gc13), by omega, nB.up (by decide), rB.up (by decide), un2, tup_of go, dx, dy, kB, fun H16 t1 s16 hR => ?_⟩
          refine ⟨.ref t1, _, rfl, hR.dp, q1, q2, q3, ?_⟩
          refine ⟨_, rfl, _, rfl, _, rfl, _, rfl, (by show 2 ≤ sizeLine; decide), fun o2 no2 => ?_⟩
          have s17 := Same.new (H := H16) (p := o2) (o := .tup [.int x, .int y]) no2
          have go2 : upd H16 o2 (.tup [.int x, .int y]) o2 = some (.tup [.int x, .int y]) := upd_same
          generalize upd H16 o2 (.tup [.int x, .int y]) = H17 at s17 go2 ⊢
          refine ⟨_, rfl, n, c, o2, k, r, b, x, y, rfl, tup_of ((s14.trans (s15.trans (s16.trans s17))) _ _ gc13), by omega, nB.up (by decide), rB.up (by decide), tup_of go2, dx, dy, kB, fun H18 t2 s18 hR2 => ?_⟩
          refine ⟨.ref t2, _, rfl, hR2.dp, q1, q2, q3, rfl, _, rfl, ?_⟩
          refine iteN (by simp) ?_
          exact ⟨s14.trans (s15.trans (s16.trans (s17.trans s18))), _, rfl⟩
        · rintro σ H14 ⟨s14, v10, rfl⟩
          exact ⟨b13.trans (But.of s14), m13.same s14, _, _, _, _, _, _, _, _, rfl⟩
      · rintro σ H4 ⟨b4, m4, v3, v4, v5, v6, v7, v8, v9, v10, rfl⟩
        exact ⟨s2.trans (But.same s3 b4 nm), _, _, _, _, _, _, _, _, _, _, rfl⟩
    · rintro σ H2 ⟨s2, v1, v2, v3, v4, v5, v6, v7, v8, v9, v10, rfl⟩
      exact q _
end
end K45
set_option Elab.async false
set_option linter.all false
set_option maxRecDepth 100000
set_option maxHeartbeats 4000000
namespace K45
open PySem PySem.Spec PyProof.Rows L2 Gd
theorem all_mk {P : Program} {w : World} {K : PySem.W.Frag} {h : Heap} {mg : Str → Option Value} {fa : Addr} (X : K.In h) (G : h.Ns mainGlobals mg) (hfa : mg "law" = some (.ref fa))
    {f2 : Addr} {od2 an2 : Option Addr} {sl2 : Array (Option Value)} {oc2 kV2 dc2 pm2 cd2 ct2 : Value}
    {f4 : Addr} {od4 an4 : Option Addr} {sl4 : Array (Option Value)} {oc4 kV4 dc4 pm4 cd4 ct4 : Value}
    {f5 : Addr} {od5 an5 : Option Addr} {sl5 : Array (Option Value)} {oc5 kV5 dc5 pm5 cd5 ct5 : Value}
    {f6 : Addr} {od6 an6 : Option Addr} {sl6 : Array (Option Value)} {oc6 kV6 dc6 pm6 cd6 ct6 : Value}
    {f7 : Addr} {od7 an7 : Option Addr} {sl7 : Array (Option Value)} {oc7 kV7 dc7 pm7 cd7 ct7 : Value}
    {f9 : Addr} {od9 an9 : Option Addr} {sl9 : Array (Option Value)} {oc9 kV9 dc9 pm9 cd9 ct9 : Value}
    {f11 : Addr} {od11 an11 : Option Addr} {sl11 : Array (Option Value)} {oc11 kV11 dc11 pm11 cd11 ct11 : Value}
    {f12 : Addr} {od12 an12 : Option Addr} {sl12 : Array (Option Value)} {oc12 kV12 dc12 pm12 cd12 ct12 : Value}
    {f13 : Addr} {od13 an13 : Option Addr} {sl13 : Array (Option Value)} {oc13 kV13 dc13 pm13 cd13 ct13 : Value}
    {f14 : Addr} {od14 an14 : Option Addr} {sl14 : Array (Option Value)} {oc14 kV14 dc14 pm14 cd14 ct14 : Value}
    {f15 : Addr} {od15 an15 : Option Addr} {sl15 : Array (Option Value)} {oc15 kV15 dc15 pm15 cd15 ct15 : Value}
    {f16 : Addr} {od16 an16 : Option Addr} {sl16 : Array (Option Value)} {oc16 kV16 dc16 pm16 cd16 ct16 : Value}
    {f17 : Addr} {od17 an17 : Option Addr} {sl17 : Array (Option Value)} {oc17 kV17 dc17 pm17 cd17 ct17 : Value}
    {f18 : Addr} {od18 an18 : Option Addr} {sl18 : Array (Option Value)} {oc18 kV18 dc18 pm18 cd18 ct18 : Value}
    {f19 : Addr} {od19 an19 : Option Addr} {sl19 : Array (Option Value)} {oc19 kV19 dc19 pm19 cd19 ct19 : Value}
    (a2 : PySem.W.nsIn K mainGlobals "inverse_mod" = some (some (.ref f2))) (l2 : K.lookup f2 = some ⟨oc2, od2, .func (PySem.W.fnOf "inverse_mod" "inverse_mod" (defArgs s_inverse_mod) (defBody s_inverse_mod) (defScope s_inverse_mod) .none kV2 dc2 pm2 an2 cd2 ct2), sl2⟩) (c2 : PySem.W.codeIn K cd2 "inverse_mod" = true) (k2 : PySem.W.keepIn K (.ref f2) = true)
    (a4 : PySem.W.nsIn K mainGlobals "doubled" = some (some (.ref f4))) (l4 : K.lookup f4 = some ⟨oc4, od4, .func (PySem.W.fnOf "doubled" "doubled" (defArgs s_doubled) (defBody s_doubled) (defScope s_doubled) .none kV4 dc4 pm4 an4 cd4 ct4), sl4⟩) (c4 : PySem.W.codeIn K cd4 "doubled" = true) (k4 : PySem.W.keepIn K (.ref f4) = true)
    (a5 : PySem.W.nsIn K mainGlobals "joined" = some (some (.ref f5))) (l5 : K.lookup f5 = some ⟨oc5, od5, .func (PySem.W.fnOf "joined" "joined" (defArgs s_joined) (defBody s_joined) (defScope s_joined) .none kV5 dc5 pm5 an5 cd5 ct5), sl5⟩) (c5 : PySem.W.codeIn K cd5 "joined" = true) (k5 : PySem.W.keepIn K (.ref f5) = true)
    (a6 : PySem.W.nsIn K mainGlobals "settled" = some (some (.ref f6))) (l6 : K.lookup f6 = some ⟨oc6, od6, .func (PySem.W.fnOf "settled" "settled" (defArgs s_settled) (defBody s_settled) (defScope s_settled) .none kV6 dc6 pm6 an6 cd6 ct6), sl6⟩) (c6 : PySem.W.codeIn K cd6 "settled" = true) (k6 : PySem.W.keepIn K (.ref f6) = true)
    (a7 : PySem.W.nsIn K mainGlobals "walk" = some (some (.ref f7))) (l7 : K.lookup f7 = some ⟨oc7, od7, .func (PySem.W.fnOf "walk" "walk" (defArgs s_walk) (defBody s_walk) (defScope s_walk) .none kV7 dc7 pm7 an7 cd7 ct7), sl7⟩) (c7 : PySem.W.codeIn K cd7 "walk" = true) (k7 : PySem.W.keepIn K (.ref f7) = true)
    (a9 : PySem.W.nsIn K mainGlobals "times_mod" = some (some (.ref f9))) (l9 : K.lookup f9 = some ⟨oc9, od9, .func (PySem.W.fnOf "times_mod" "times_mod" (defArgs s_times_mod) (defBody s_times_mod) (defScope s_times_mod) .none kV9 dc9 pm9 an9 cd9 ct9), sl9⟩) (c9 : PySem.W.codeIn K cd9 "times_mod" = true) (k9 : PySem.W.keepIn K (.ref f9) = true)
    (a11 : PySem.W.nsIn K mainGlobals "_law_begun" = some (some (.ref f11))) (l11 : K.lookup f11 = some ⟨oc11, od11, .func (PySem.W.fnOf "_law_begun" "_law_begun" (defArgs s__law_begun) (defBody s__law_begun) (defScope s__law_begun) .none kV11 dc11 pm11 an11 cd11 ct11), sl11⟩) (c11 : PySem.W.codeIn K cd11 "_law_begun" = true) (k11 : PySem.W.keepIn K (.ref f11) = true)
    (a12 : PySem.W.nsIn K mainGlobals "_law_draw" = some (some (.ref f12))) (l12 : K.lookup f12 = some ⟨oc12, od12, .func (PySem.W.fnOf "_law_draw" "_law_draw" (defArgs s__law_draw) (defBody s__law_draw) (defScope s__law_draw) .none kV12 dc12 pm12 an12 cd12 ct12), sl12⟩) (c12 : PySem.W.codeIn K cd12 "_law_draw" = true) (k12 : PySem.W.keepIn K (.ref f12) = true)
    (a13 : PySem.W.nsIn K mainGlobals "_law_of" = some (some (.ref f13))) (l13 : K.lookup f13 = some ⟨oc13, od13, .func (PySem.W.fnOf "_law_of" "_law_of" (defArgs s__law_of) (defBody s__law_of) (defScope s__law_of) .none kV13 dc13 pm13 an13 cd13 ct13), sl13⟩) (c13 : PySem.W.codeIn K cd13 "_law_of" = true) (k13 : PySem.W.keepIn K (.ref f13) = true)
    (a14 : PySem.W.nsIn K mainGlobals "_law_common" = some (some (.ref f14))) (l14 : K.lookup f14 = some ⟨oc14, od14, .func (PySem.W.fnOf "_law_common" "_law_common" (defArgs s__law_common) (defBody s__law_common) (defScope s__law_common) .none kV14 dc14 pm14 an14 cd14 ct14), sl14⟩) (c14 : PySem.W.codeIn K cd14 "_law_common" = true) (k14 : PySem.W.keepIn K (.ref f14) = true)
    (a15 : PySem.W.nsIn K mainGlobals "_law_inverse" = some (some (.ref f15))) (l15 : K.lookup f15 = some ⟨oc15, od15, .func (PySem.W.fnOf "_law_inverse" "_law_inverse" (defArgs s__law_inverse) (defBody s__law_inverse) (defScope s__law_inverse) .none kV15 dc15 pm15 an15 cd15 ct15), sl15⟩) (c15 : PySem.W.codeIn K cd15 "_law_inverse" = true) (k15 : PySem.W.keepIn K (.ref f15) = true)
    (a16 : PySem.W.nsIn K mainGlobals "_law_walk_sum" = some (some (.ref f16))) (l16 : K.lookup f16 = some ⟨oc16, od16, .func (PySem.W.fnOf "_law_walk_sum" "_law_walk_sum" (defArgs s__law_walk_sum) (defBody s__law_walk_sum) (defScope s__law_walk_sum) .none kV16 dc16 pm16 an16 cd16 ct16), sl16⟩) (c16 : PySem.W.codeIn K cd16 "_law_walk_sum" = true) (k16 : PySem.W.keepIn K (.ref f16) = true)
    (a17 : PySem.W.nsIn K mainGlobals "_law_walk" = some (some (.ref f17))) (l17 : K.lookup f17 = some ⟨oc17, od17, .func (PySem.W.fnOf "_law_walk" "_law_walk" (defArgs s__law_walk) (defBody s__law_walk) (defScope s__law_walk) .none kV17 dc17 pm17 an17 cd17 ct17), sl17⟩) (c17 : PySem.W.codeIn K cd17 "_law_walk" = true) (k17 : PySem.W.keepIn K (.ref f17) = true)
    (a18 : PySem.W.nsIn K mainGlobals "_law_number" = some (some (.ref f18))) (l18 : K.lookup f18 = some ⟨oc18, od18, .func (PySem.W.fnOf "_law_number" "_law_number" (defArgs s__law_number) (defBody s__law_number) (defScope s__law_number) .none kV18 dc18 pm18 an18 cd18 ct18), sl18⟩) (c18 : PySem.W.codeIn K cd18 "_law_number" = true) (k18 : PySem.W.keepIn K (.ref f18) = true)
    (a19 : PySem.W.nsIn K mainGlobals "law" = some (some (.ref f19))) (l19 : K.lookup f19 = some ⟨oc19, od19, .func (PySem.W.fnOf "law" "law" (defArgs s_law) (defBody s_law) (defScope s_law) .none kV19 dc19 pm19 an19 cd19 ct19), sl19⟩) (c19 : PySem.W.codeIn K cd19 "law" = true) (k19 : PySem.W.keepIn K (.ref f19) = true)
    (z_gcd : PySem.W.nsIn K mainGlobals "gcd" = some (some (.builtin "math.gcd")))
    (z_int : PySem.W.nsIn K mainGlobals "int" = some none)
    (z_len : PySem.W.nsIn K mainGlobals "len" = some none)
    (z_abs : PySem.W.nsIn K mainGlobals "abs" = some none)
    (z_range : PySem.W.nsIn K mainGlobals "range" = some none)
    (z_divmod : PySem.W.nsIn K mainGlobals "divmod" = some none)
    (z_min : PySem.W.nsIn K mainGlobals "min" = some none)
    (z_repr : PySem.W.nsIn K mainGlobals "repr" = some none)
    : ∃ fd : FuncData, (∀ (s : Shared) (v : Value), BindsTo s fd ⟨[v], []⟩ [("script", v)]) ∧ ∀ base : Heap, K.In base → base.Ns mainGlobals mg → FnG P w K mg base 5 fa fd ["script"] (sp_law K) := by
  have T : Tx K mg := ⟨PySem.W.mg_of X G z_gcd, PySem.W.mg_none_of X G z_int, PySem.W.mg_none_of X G z_len, PySem.W.mg_none_of X G z_abs, PySem.W.mg_none_of X G z_range, PySem.W.mg_none_of X G z_divmod, PySem.W.mg_none_of X G z_min, PySem.W.mg_none_of X G z_repr⟩
  have d2 : Df K mg "inverse_mod" s_inverse_mod ["a", "m"] := df_mk X G a2 l2 c2 k2 (fun _ _ _ _ _ _ us hl => match us, hl with | [_, _], _ => rfl)
  have d4 : Df K mg "doubled" s_doubled ["n", "a", "place"] := df_mk X G a4 l4 c4 k4 (fun _ _ _ _ _ _ us hl => match us, hl with | [_, _, _], _ => rfl)
  have d5 : Df K mg "joined" s_joined ["n", "a", "place", "point"] := df_mk X G a5 l5 c5 k5 (fun _ _ _ _ _ _ us hl => match us, hl with | [_, _, _, _], _ => rfl)
  have d6 : Df K mg "settled" s_settled ["n", "place"] := df_mk X G a6 l6 c6 k6 (fun _ _ _ _ _ _ us hl => match us, hl with | [_, _], _ => rfl)
  have d7 : Df K mg "walk" s_walk ["n", "a", "point", "k"] := df_mk X G a7 l7 c7 k7 (fun _ _ _ _ _ _ us hl => match us, hl with | [_, _, _, _], _ => rfl)
  have d9 : Df K mg "times_mod" s_times_mod ["n", "curve", "point", "k"] := df_mk X G a9 l9 c9 k9 (fun _ _ _ _ _ _ us hl => match us, hl with | [_, _, _, _], _ => rfl)
  have d11 : Df K mg "_law_begun" s__law_begun ["script", "k"] := df_mk X G a11 l11 c11 k11 (fun _ _ _ _ _ _ us hl => match us, hl with | [_, _], _ => rfl)
  have d12 : Df K mg "_law_draw" s__law_draw ["m", "below"] := df_mk X G a12 l12 c12 k12 (fun _ _ _ _ _ _ us hl => match us, hl with | [_, _], _ => rfl)
  have d13 : Df K mg "_law_of" s__law_of ["m", "some"] := df_mk X G a13 l13 c13 k13 (fun _ _ _ _ _ _ us hl => match us, hl with | [_, _], _ => rfl)
  have d14 : Df K mg "_law_common" s__law_common ["a", "b"] := df_mk X G a14 l14 c14 k14 (fun _ _ _ _ _ _ us hl => match us, hl with | [_, _], _ => rfl)
  have d15 : Df K mg "_law_inverse" s__law_inverse ["a", "p"] := df_mk X G a15 l15 c15 k15 (fun _ _ _ _ _ _ us hl => match us, hl with | [_, _], _ => rfl)
  have d16 : Df K mg "_law_walk_sum" s__law_walk_sum ["n", "curve", "one", "two"] := df_mk X G a16 l16 c16 k16 (fun _ _ _ _ _ _ us hl => match us, hl with | [_, _, _, _], _ => rfl)
  have d17 : Df K mg "_law_walk" s__law_walk ["n", "curve", "point", "k"] := df_mk X G a17 l17 c17 k17 (fun _ _ _ _ _ _ us hl => match us, hl with | [_, _, _, _], _ => rfl)
  have d18 : Df K mg "_law_number" s__law_number ["m"] := df_mk X G a18 l18 c18 k18 (fun _ _ _ _ _ _ us hl => match us, hl with | [_], _ => rfl)
  refine law_fd X G hfa a19 l19 c19 k19 (fun _ _ _ _ _ _ us hl => match us, hl with | [_], _ => rfl) (fun fd F base => ?_)
  have c_inverse_mod := k_inverse_mod (P := P) (w := w) (base := base) T d2 
  have c_doubled := k_doubled (P := P) (w := w) (base := base) T d4 
  have c_law_begun := k_law_begun (P := P) (w := w) (base := base) T d11 
  have c_law_draw := k_law_draw (P := P) (w := w) (base := base) T d12 
  have c_law_common := k_law_common (P := P) (w := w) (base := base) T d14 
  have c_law_inverse := k_law_inverse (P := P) (w := w) (base := base) T d15 
  have c_joined := k_joined (P := P) (w := w) (base := base) T d5 c_doubled
  have c_settled := k_settled (P := P) (w := w) (base := base) T d6 c_inverse_mod
  have c_law_of := k_law_of (P := P) (w := w) (base := base) T d13 c_law_draw
  have c_law_walk_sum := k_law_walk_sum (P := P) (w := w) (base := base) T d16 c_law_common c_law_inverse
  have c_walk := k_walk (P := P) (w := w) (base := base) T d7 c_doubled c_settled c_joined
  have c_law_walk := k_law_walk (P := P) (w := w) (base := base) T d17 c_law_walk_sum
  have c_law_number := k_law_number (P := P) (w := w) (base := base) T d18 c_law_draw c_law_of
  have c_times_mod := k_times_mod (P := P) (w := w) (base := base) T d9 c_walk
  exact k_law T F c_law_begun c_law_number c_law_draw c_times_mod c_law_walk
end K45
open PySem PySem.W PyProof.Rows
set_option maxRecDepth 100000 in
set_option maxHeartbeats 0 in
theorem PySem.Challenge.cw_pointsum_k45_walks_modulo_numbers_holds : PySem.Challenge.rw_pointsum_k45_walks_modulo_numbers.Holds := by
  w_on; o_law; k_head; (case hw => w_witness2)
  k_fill
  refine Gd.walk_g (l := PySem.Challenge.rw_pointsum_k45_walks_modulo_numbers) (n := 63) (k := 5) (x := "script") (sp := fun K => K45.sp_law K) rfl (by decide) rfl ⟨rfl, by decide, by decide⟩ (fun w h Y => PySem.W.kIn_of Y) ?F (fun K H a ns hl hS => ⟨a, ns, rfl, hS, hl, fun _ => rfl⟩)
  case F =>
    intro w mg fa h KX G hmg
    refine' K45.all_mk KX G hmg ?a2 ?l2 ?c2 ?k2 ?a4 ?l4 ?c4 ?k4 ?a5 ?l5 ?c5 ?k5 ?a6 ?l6 ?c6 ?k6 ?a7 ?l7 ?c7 ?k7 ?a9 ?l9 ?c9 ?k9 ?a11 ?l11 ?c11 ?k11 ?a12 ?l12 ?c12 ?k12 ?a13 ?l13 ?c13 ?k13 ?a14 ?l14 ?c14 ?k14 ?a15 ?l15 ?c15 ?k15 ?a16 ?l16 ?c16 ?k16 ?a17 ?l17 ?c17 ?k17 ?a18 ?l18 ?c18 ?k18 ?a19 ?l19 ?c19 ?k19 ?z_gcd ?z_int ?z_len ?z_abs ?z_range ?z_divmod ?z_min ?z_repr
    (case a2 => k_is); (case l2 => k_is); (case c2 => k_is); (case k2 => k_is); (case a4 => k_is); (case l4 => k_is); (case c4 => k_is); (case k4 => k_is)
    (case a5 => k_is); (case l5 => k_is); (case c5 => k_is); (case k5 => k_is); (case a6 => k_is); (case l6 => k_is); (case c6 => k_is); (case k6 => k_is)
    (case a7 => k_is); (case l7 => k_is); (case c7 => k_is); (case k7 => k_is); (case a9 => k_is); (case l9 => k_is); (case c9 => k_is); (case k9 => k_is)
    (case a11 => k_is); (case l11 => k_is); (case c11 => k_is); (case k11 => k_is); (case a12 => k_is); (case l12 => k_is); (case c12 => k_is); (case k12 => k_is)
    (case a13 => k_is); (case l13 => k_is); (case c13 => k_is); (case k13 => k_is); (case a14 => k_is); (case l14 => k_is); (case c14 => k_is); (case k14 => k_is)
    (case a15 => k_is); (case l15 => k_is); (case c15 => k_is); (case k15 => k_is); (case a16 => k_is); (case l16 => k_is); (case c16 => k_is); (case k16 => k_is)
    (case a17 => k_is); (case l17 => k_is); (case c17 => k_is); (case k17 => k_is); (case a18 => k_is); (case l18 => k_is); (case c18 => k_is); (case k18 => k_is)
    (case a19 => k_is); (case l19 => k_is); (case c19 => k_is); (case k19 => k_is); (case z_gcd => k_is); (case z_int => k_is); (case z_len => k_is); (case z_abs => k_is)
    (case z_range => k_is); (case z_divmod => k_is); (case z_min => k_is); (case z_repr => k_is)
